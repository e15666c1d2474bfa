/-
  The program's Read and All.
-/
import Derived.Test.YtelifoagnheioaaRtk
import Derived.Test.YtelifoagnheioaaRbs
set_option linter.unusedVariables false
set_option linter.unusedSimpArgs false
set_option maxRecDepth 100000
namespace Go.Proofs.Ytelifoagnheioaa
open Go.RowKit
attribute [local go_sem ↓] Go.wp_at_zero Go.wp_at_succ ld_r st_r bd_r ne_r bs_r
attribute [local go_sem] run_ldr run_str run_bdr1 run_bdr0 run_bsr1 run_ner Shp.rd_new Shp.rd_old Shp.tn_new Shp.tn_old setRow_alloc setRow_alloc2

theorem results_ct3 {fn : Func} {p u v : Tmp} {ty : TypeId} (h : fn.results = #[.cell p ty, .tmp u, .tmp v]) {tmps : Array Value} {w : World} {H : Nat} {x : D.Rc} {y z : Value} (hT : ty = 28) (hp : tmps.getD p undef = .pointer (some ⟨H, 0, none⟩)) (hu : tmps.getD u undef = y) (hv : tmps.getD v undef = z) (hr : rS.rd w ⟨H, 0, none⟩ = some x) :
    (results fn tmps).run Try.prog w = .ok (.tuple #[.agg (rS.v x), y, z]) w := by
  subst hT
  rw [Array.getD_eq_getD_getElem?] at hp hu hv
  simp only [results, h]
  simp [Sem.run_bind, Result.andThen, hp, hu, hv, asAddr, lvr_of hr]
theorem rdr_n {l : List Nat} {n : Nat} (h : (D.rdr l n).e ≠ 0) : D.rdr l n = ⟨D.zRc, 0, (D.rdr l n).e⟩ := by
  unfold D.rdr at h ⊢
  cases hk : l[n]? with
  | none => rfl
  | some k =>
    simp only [hk] at h ⊢
    by_cases h6 : k = 0 ∨ 6 < k
    · simp only [if_pos h6]
    · simp only [if_neg h6] at h ⊢
      by_cases he : D.fst2 (D.fst2 (D.rfs l ⟨n + 1, 0⟩ k).z.e (if (D.rfs l ⟨n + 1, 0⟩ k).odd = true then 5 else 0)) (D.chk (D.rfs l ⟨n + 1, 0⟩ k).r) = 0
      · rw [if_pos he] at h
        exact absurd rfl h
      · rw [if_neg he]
set_option maxHeartbeats 4000000 in
theorem read_any (l : List Nat) (A : Option Addr) (n c : Nat) (w : World) (hl : ∀ b ∈ l, b < 256) (hr : Row w A n (bys l)) (hn : n ≤ 1000000) :
    Calls Try.prog 17 #[.slice A n c] w fun en w' => en = .returned (.tuple #[.agg (rS.v (D.rdr l 0).r), .int .i64 ((D.rdr l 0).n : Nat), .int .i64 ((D.rdr l 0).e : Nat)]) ∧ Below w.heap.size w w' := by
  have hlen := hr.len
  rw [bys_len] at hlen
  have CN := Lib.hid (fun W (k : Row W A n (bys l)) => new_reader n c A l W k ⟨hl⟩ hn)
  have HR := Lib.hid hr
  have HL := Lib.hid hl
  obtain ⟨o, ho⟩ : ∃ o, D.rdr l 0 = o := ⟨_, rfl⟩
  have HO := Lib.hid ho
  have hz := rdr_n (l := l) (n := 0)
  rw [ho] at hz ⊢
  have CT := fun q B m d W (h1 : Rd W q B m d l 0 0) (h2 : ∀ ad, B = some ad → ad.block < W.heap.size) => take_any q m d 0 B l W hl h2 h1
  rw [ho] at CT
  obtain ⟨r, k, e⟩ := o
  simp only at hz ⊢
  have CT' : Hid (∀ q B m d W, Rd W q B m d l 0 0 → (∀ ad, B = some ad → ad.block < W.heap.size) → Calls Try.prog 31 #[.pointer (some ⟨q, 0, none⟩)] W fun en w' => en = .returned (.tuple #[.agg (rS.v r), .int .i64 (e : Nat)]) ∧ (e = 0 → Rd w' q B m d l k 0) ∧ Only (fun i => i = q) W w') := Lib.hid CT
  have HZ := Lib.hid hz
  have HLEN := Lib.hid hlen
  clear CT hl hr ho hz hlen
  go_enter Try.func17, Try.ntmps17
  go_wp2_with fail
  have Z0 := Lib.hid (rb_zero w)
  have B0 := Lib.hid (below_alloc w (.cells #[.int .u8 0, .int .u8 0, .int .u8 0, .int .u8 0, .int .u8 0, .bool false, .int .u32 0, .int .u64 0, .string ⟨#[]⟩] 28))
  generalize w.alloc (.cells #[.int .u8 0, .int .u8 0, .int .u8 0, .int .u8 0, .int .u8 0, .bool false, .int .u32 0, .int .u64 0, .string ⟨#[]⟩] 28) = W0 at Z0 B0 ⊢
  by_cases h0 : e = 0
  · subst h0
    have CT0 : Hid (∀ q B m d W, Rd W q B m d l 0 0 → (∀ ad, B = some ad → ad.block < W.heap.size) → Calls Try.prog 31 #[.pointer (some ⟨q, 0, none⟩)] W fun en w' => en = .returned (.tuple #[.agg (rS.v r), .int .i64 0]) ∧ (0 = 0 → Rd w' q B m d l k 0) ∧ Only (fun i => i = q) W w') := CT'
    go_wp2_with (first
      | (go_at_call 30; (with_reducible refine (CN.out _ (HR.out.on B0.out)).mono ?_); rintro en w1 ⟨q, B, d, rfl, h1, hq, hA, b1⟩
         have H1 := Lib.hid h1
         have HQ := Lib.hid (show w.heap.size < q from Nat.lt_of_lt_of_le (Blk.lt Z0.out) hq)
         have B1 := Lib.hid (B0.out.trans (b1.mono B0.out.size))
         have Z1 := Lib.hid (Z0.out.on b1)
         have HA := Lib.hid (show ∀ ad, B = some ad → ad.block < w1.heap.size from fun ad e => (hA ad.block ⟨ad, e, rfl⟩).2)
         clear h1 hq hA b1)
      | (go_at_call 31; (with_reducible refine (CT0.out _ _ _ _ _ H1.out HA.out).mono ?_); rintro en w2 ⟨rfl, h2, k2⟩
         have H2 := Lib.hid (h2 (by trivial))
         have B2 := Lib.hid (B1.out.trans (k2.below B1.out.size (fun i hi => by have := HQ.out; omega)))
         have Z2 := Lib.hid (Z1.out.only k2 (by have := HQ.out; omega))
         clear h2 k2))
    have P2 := Lib.hid (RB.new w2 w2.heap.size r rfl)
    have H3 := Lib.hid (H2.out.on (below_alloc w2 (.cells (rS.v r) 28)))
    have Z3 := Lib.hid (Z2.out.on (below_alloc w2 (.cells (rS.v r) 28)))
    have B3 := Lib.hid (B2.out.alloc B2.out.size (.cells (rS.v r) 28))
    have LP := Lib.hid (show w2.heap.size ≠ w.heap.size from fun e => by have := Blk.lt Z2.out; omega)
    generalize w2.alloc (.cells (rS.v r) 28) = w3 at P2 H3 Z3 B3 ⊢
    have CL := Lib.hid (fun W (kk : Blk W q 102 #[.slice B n d, .int .i64 ((0 : Nat) : Int), .int .i64 (k : Nat)]) => left_any q n d k 0 B W kk H3.out.le hn)
    have hS : rS.rd w3.drew ⟨w2.heap.size, 0, none⟩ = some r ∧ Blk w3.drew q 102 #[.slice B n d, .int .i64 ((0 : Nat) : Int), .int .i64 (k : Nat)] := ⟨(P2.out.on (below_dr _)).rd, H3.out.blk.drew⟩
    refine wp_region_noPanic ?_
    refine wp_region_held_drew (S := fun W => rS.rd W ⟨w2.heap.size, 0, none⟩ = some r ∧ Blk W q 102 #[.slice B n d, .int .i64 ((0 : Nat) : Int), .int .i64 (k : Nat)]) (by kernel_rfl) hS (fun _ => ?_)
    refine takeS 0 (some 19) ?v0 (by kernel_rfl) (by kernel_rfl) (by kernel_rfl) (by kernel_rfl) (fun _ _ _ h => h) (by rfl) ?hy0 hS ?rest0
    case hy0 => (intro o ho W hW; simp only [List.getElem?_toArray, List.getElem?_cons_succ, List.getElem?_cons_zero, Option.some.injEq] at ho; subst ho; obtain ⟨hW1, hW2⟩ := hW; go_simp; try rfl)
    try simp only [Act.put, List.setIfInBounds_toArray, List.set_cons_zero, List.set_cons_succ]
    refine takeS 1 (some 20) ?v1 (by kernel_rfl) (by kernel_rfl) (by kernel_rfl) (by kernel_rfl) (fun _ _ _ h => h) (by rfl) ?hy1 hS ?rest1
    case hy1 => (intro o ho W hW; simp only [List.getElem?_toArray, List.getElem?_cons_succ, List.getElem?_cons_zero, Option.some.injEq] at ho; subst ho; obtain ⟨hW1, hW2⟩ := hW; go_simp; try rfl)
    try simp only [Act.put, List.setIfInBounds_toArray, List.set_cons_zero, List.set_cons_succ]
    refine takeS 2 (some 21) ?v2 (by kernel_rfl) (by kernel_rfl) (by kernel_rfl) (by kernel_rfl) (fun _ _ _ h => h) (by rfl) ?hy2 hS ?rest2
    case hy2 => (intro o ho W hW; simp only [List.getElem?_toArray, List.getElem?_cons_succ, List.getElem?_cons_zero, Option.some.injEq] at ho; subst ho; obtain ⟨hW1, hW2⟩ := hW; go_simp; try rfl)
    try simp only [Act.put, List.setIfInBounds_toArray, List.set_cons_zero, List.set_cons_succ]
    refine takeS 3 (some 22) ?v3 (by kernel_rfl) (by kernel_rfl) (by kernel_rfl) (by kernel_rfl) (fun _ _ _ h => h) (by rfl) ?hy3 hS ?rest3
    case hy3 => (intro o ho W hW; simp only [List.getElem?_toArray, List.getElem?_cons_succ, List.getElem?_cons_zero, Option.some.injEq] at ho; subst ho; obtain ⟨hW1, hW2⟩ := hW; go_simp; try rfl)
    try simp only [Act.put, List.setIfInBounds_toArray, List.set_cons_zero, List.set_cons_succ]
    refine nextS 4 (by kernel_rfl) (by rfl) (fun o ho K hK => ?_)
    simp only [List.getElem?_toArray, List.getElem?_cons_succ, List.getElem?_cons_zero, Option.some.injEq] at ho; subst ho
    go_simp
    (go_at_call 32; (with_reducible refine (CL.out _ hS.2).mono ?_); rintro en w4 ⟨rfl, u, hw4⟩)
    have bw : Below w3.drew.heap.size w3.drew w4 := by
      rw [hw4]
      exact below_drewN (Below.refl _ _) u
    clear hw4
    have hS4 : rS.rd w4 ⟨w2.heap.size, 0, none⟩ = some r ∧ Blk w4 q 102 #[.slice B n d, .int .i64 ((0 : Nat) : Int), .int .i64 (k : Nat)] := ⟨Shp.rd_on hS.1 bw, hS.2.on bw⟩
    refine hK.out _ _ hS4 (fun _ => ?_)
    clear hK K
    try simp only [Act.put, List.setIfInBounds_toArray, List.set_cons_zero, List.set_cons_succ]
    have hwr : IntKind.i64.wrap ((n : Int) - ((n - k : Nat) : Int)) = (k : Int) := by
      have := H3.out.le
      rw [IntWalk.i64_in _ (by omega)]
      omega
    refine takeS 5 (some 24) (.int .i64 (k : Nat)) (by kernel_rfl) (by kernel_rfl) (by kernel_rfl) (by kernel_rfl) (fun _ _ _ h => h) (by rfl) ?hy5 hS4 ?rest5
    case hy5 => (intro o ho W hW; simp only [List.getElem?_toArray, List.getElem?_cons_succ, List.getElem?_cons_zero, Option.some.injEq] at ho; subst ho; obtain ⟨hW1, hW2⟩ := hW; go_simp; try rfl)
    try simp only [Act.put, List.setIfInBounds_toArray, List.set_cons_zero, List.set_cons_succ]
    have t4 : Shp.tn 9 w4 w.heap.size = true := ((Z3.out.on (below_dr _)).on bw).tn
    have hS5 : rS.rd (w4.setRow w.heap.size (rS.v r)) ⟨w2.heap.size, 0, none⟩ = some r ∧ Blk (w4.setRow w.heap.size (rS.v r)) q 102 #[.slice B n d, .int .i64 ((0 : Nat) : Int), .int .i64 (k : Nat)] := ⟨(Shp.rd_far _ _ _ _ LP.out).trans hS4.1, ⟨(heap_setRow _ _ _ _ (by have := HQ.out; omega)).trans hS4.2.out⟩⟩
    have r5 := Shp.rd_set (S := rS) w4 w.heap.size r t4
    refine nextS 6 (by kernel_rfl) (by rfl) (fun o ho K hK => ?_)
    simp only [List.getElem?_toArray, List.getElem?_cons_succ, List.getElem?_cons_zero, Option.some.injEq] at ho; subst ho
    go_simp
    refine hK.out _ _ hS5 (fun _ => ?_)
    clear hK K
    try simp only [Act.put, List.setIfInBounds_toArray, List.set_cons_zero, List.set_cons_succ]
    refine takeS 7 (some 3) ?v7 (by kernel_rfl) (by kernel_rfl) (by kernel_rfl) (by kernel_rfl) (fun _ _ _ h => h) (by rfl) ?hy7 hS5 ?rest7
    case hy7 => (intro o ho W hW; simp only [List.getElem?_toArray, List.getElem?_cons_succ, List.getElem?_cons_zero, Option.some.injEq] at ho; subst ho; obtain ⟨hW1, hW2⟩ := hW; go_simp; try rfl)
    try simp only [Act.put, List.setIfInBounds_toArray, List.set_cons_zero, List.set_cons_succ]
    refine takeS 8 (some 4) ?v8 (by kernel_rfl) (by kernel_rfl) (by kernel_rfl) (by kernel_rfl) (fun _ _ _ h => h) (by rfl) ?hy8 hS5 ?rest8
    case hy8 => (intro o ho W hW; simp only [List.getElem?_toArray, List.getElem?_cons_succ, List.getElem?_cons_zero, Option.some.injEq] at ho; subst ho; obtain ⟨hW1, hW2⟩ := hW; go_simp; try rfl)
    try simp only [Act.put, List.setIfInBounds_toArray, List.set_cons_zero, List.set_cons_succ]
    refine wpAnyH_done (by kernel_rfl) ?_ _
    refine NoPanic.normal ?_
    go_wp2
    refine bodyPost_ret (v := .tuple #[.agg (rS.v r), .int .i64 (k : Nat), .int .i64 0]) (results_ct3 rfl rfl rfl rfl rfl r5) rfl ⟨rfl, ?_⟩
    exact bel_setRow ((B3.out.trans ((below_dr w3).mono B3.out.size)).trans (bw.mono (by have := B3.out.size; simpa using this))) (Nat.le_refl _) _
  · have hb : ((e : Int) != 0) = true := by simp; exact h0
    go_wp2_with (first
      | (go_at_call 30; (with_reducible refine (CN.out _ (HR.out.on B0.out)).mono ?_); rintro en w1 ⟨q, B, d, rfl, h1, hq, hA, b1⟩
         have H1 := Lib.hid h1
         have HQ := Lib.hid (show w.heap.size < q from Nat.lt_of_lt_of_le (Blk.lt Z0.out) hq)
         have B1 := Lib.hid (B0.out.trans (b1.mono B0.out.size))
         have Z1 := Lib.hid (Z0.out.on b1)
         have HA := Lib.hid (show ∀ ad, B = some ad → ad.block < w1.heap.size from fun ad e => (hA ad.block ⟨ad, e, rfl⟩).2)
         clear h1 hq hA b1)
      | (go_at_call 31; (with_reducible refine (CT'.out _ _ _ _ _ H1.out HA.out).mono ?_); rintro en w2 ⟨rfl, h2, k2⟩
         have H2 := Lib.hid h2
         have B2 := Lib.hid (B1.out.trans (k2.below B1.out.size (fun i hi => by have := HQ.out; omega)))
         have Z2 := Lib.hid (Z1.out.only k2 (by have := HQ.out; omega))
         have t2 := Z2.out.tn
         have lz : w.heap.size < w2.heap.size := Blk.lt Z2.out
         clear h2 k2))
    have r5 := Shp.rd_set (S := rS) (w2.alloc (.cells (rS.v r) 28)) w.heap.size D.zRc ((Z2.out.on (below_alloc w2 (.cells (rS.v r) 28))).tn)
    have hz := HZ.out h0
    injection hz with hz1 hz2
    subst hz1 hz2
    refine bodyPost_ret (v := .tuple #[.agg (rS.v D.zRc), .int .i64 0, .int .i64 (e : Nat)]) (results_ct3 rfl rfl rfl rfl rfl r5) rfl ⟨rfl, ?_⟩
    exact bel_setRow (B2.out.alloc B2.out.size _) (Nat.le_refl _) _
end Go.Proofs.Ytelifoagnheioaa
