/-
  The next part of a text: the closure of spelled; the parts' variable.
  The key of a text's parts: spelled.
  The key of a text: Parse.
  Has, of prefixes.
  The chapter's example of keys.
-/
import Derived.Test.YtjblepjkejihcaaGreatDoorKrt
import Derived.Test.YtjblepjkejihcaaGreatDoorGg
import Derived.Test.YtjblepjkejihcaaGreatDoorTpb
import Derived.Test.YtjblepjkejihcaaGreatDoorGe
import Derived.Test.YtjblepjkejihcaaGreatDoorGl
import Derived.Test.YtjblepjkejihcaaGreatDoorKtx
import Derived.BigQuiet
set_option linter.unusedVariables false
set_option linter.unusedSimpArgs false
set_option maxRecDepth 100000
namespace Go.Proofs.YtjblepjkejihcaaGreatDoor
open Go.RowKit
attribute [local go_sem ↓] Go.wp_at_zero Go.wp_at_succ

/-- The parts that are left, in their variable. -/
structure PV (g : Nat) (w : World) (q : List ByteArray) : Prop where
  v : ∃ (A : Option Addr) (c : Nat), q.length ≤ c ∧ Blk w g 84 #[.slice A q.length c] ∧ Row w A q.length (q.map Value.string) ∧ ∀ ad, A = some ad → ad.block ≠ g
/-- Of what was there only one block may have turned. -/
structure Far (g : Nat) (w w' : World) : Prop where
  os : w'.os = w.os
  tape : w'.tape = w.tape
  output : w'.output = w.output
  size : w.heap.size ≤ w'.heap.size
  block : ∀ k, k < w.heap.size → k ≠ g → w'.heap[k]? = w.heap[k]?
theorem Far.refl (g : Nat) (w : World) : Far g w w := ⟨rfl, rfl, rfl, Nat.le_refl _, fun _ _ _ => rfl⟩
theorem Far.trans {g : Nat} {a b c : World} (h : Far g a b) (h' : Far g b c) : Far g a c := ⟨h'.os.trans h.os, h'.tape.trans h.tape, h'.output.trans h.output, Nat.le_trans h.size h'.size, fun k hk hg => (h'.block k (Nat.lt_of_lt_of_le hk h.size) hg).trans (h.block k hk hg)⟩
theorem Far.of {g : Nat} {w w' : World} (h : Below w.heap.size w w') : Far g w w' := ⟨h.os, h.tape, h.output, h.size, fun k hk _ => h.block k hk⟩
theorem Far.on {g : Nat} {w w' w'' : World} (h : Far g w w') (hb : Below w'.heap.size w' w'') : Far g w w'' := h.trans (.of hb)
theorem Far.below {g B : Nat} {w0 w w' : World} (h : Far g w w') (hb : Below B w0 w) (hg : B ≤ g) (hs : B ≤ w.heap.size) : Below B w0 w' :=
  ⟨h.os.trans hb.os, h.tape.trans hb.tape, h.output.trans hb.output, Nat.le_trans hb.size h.size, fun k hk => (h.block k (Nat.lt_of_lt_of_le hk hs) (by omega)).trans (hb.block k hk)⟩
theorem Far.blk {g k : Nat} {w w' : World} {t : TypeId} {cs : Array Value} (h : Far g w w') (hb : Blk w k t cs) (hk : k ≠ g) : Blk w' k t cs := ⟨(h.block k hb.lt hk).trans hb.out⟩
theorem Far.cell {g : Nat} {w w' : World} {a : Addr} {v : Value} (h : Far g w w') (hc : w.cell? a = some v) (hk : a.block ≠ g) : w'.cell? a = some v := (World.cell?_of_block (h.block _ (World.block_lt_of_cell? w _ hc) hk)).trans hc
theorem PV.on {g : Nat} {w w' : World} {q : List ByteArray} (h : PV g w q) (hb : Below w.heap.size w w') : PV g w' q := by
  obtain ⟨A, c, h1, h2, h3, h4⟩ := h.v
  exact ⟨A, c, h1, h2.on hb, h3.on hb, h4⟩
theorem far_set (w : World) (g i : Nat) (v : Value) : Far g w (w.setCell ⟨g, i, none⟩ v) := ⟨rfl, rfl, rfl, by simp [World.setCell], fun k _ hk => Below.heap_setCell w _ v k hk⟩
set_option maxHeartbeats 2000000 in
theorem next_any (g : Nat) (u : Bool) (q : List ByteArray) (w : World) (h : PV g w q) :
    Calls Tryz.prog 65 #[.bool u, .pointer (some ⟨g, 0, none⟩)] w fun e w' => e = .returned (.string (D.nx u q).1) ∧ PV g w' (D.nx u q).2 ∧ Far g w w' := by
  obtain ⟨A, c, h1, h2, h3, h4⟩ := h.v
  have hc := h2.c 0
  have hf := h2.f 0
  simp at hc
  cases u with
  | false =>
    have HN : Kept (PV g w q) := ⟨h⟩
    clear h1 h2 h3 h4 h
    go_enter Tryz.func65, Tryz.ntmps65
    go_wp2
    go_ret
    exact ⟨rfl, HN.out, Far.refl _ _⟩
  | true =>
    cases q with
    | nil =>
      have HN : Kept (PV g w []) := ⟨h⟩
      have hl : (([] : List ByteArray).length : Int) = 0 := rfl
      simp only [List.length_nil] at hc
      clear h1 h2 h3 h4 h
      go_enter Tryz.func65, Tryz.ntmps65
      go_wp2
      go_ret
      exact ⟨rfl, HN.out, Far.refl _ _⟩
    | cons x r =>
      obtain ⟨d, rfl⟩ : ∃ d, c = d + 1 := ⟨c - 1, by simp at h1; omega⟩
      obtain ⟨ad, rfl, hx⟩ := h3.cell (k := 0) (u := .string x) rfl
      rw [add_zero_] at hx
      obtain ⟨A1, e1, e2, e3⟩ := from1_s (some ad) r.length d (by simpa using h1)
      have hr1 := e2 w (.string x) (r.map Value.string) h3
      have hA1 := e3 g h4
      have hb := h2.put 0 (.slice A1 r.length d)
      have hN : PV g (w.setCell ⟨g, 0, none⟩ (.slice A1 r.length d)) r := ⟨A1, d, by simpa using h1, by simpa using hb, hr1.keep (by simp [World.setCell]) (fun a e => Below.heap_setCell _ _ _ _ (hA1 a e)), hA1⟩
      have HN : Kept (PV g (w.setCell ⟨g, 0, none⟩ (.slice A1 r.length d)) r) := ⟨hN⟩
      have hgt : ¬ ((r.length : Int) + 1 = 0) := by omega
      simp only [List.length_cons] at hc
      have hlt : (0 : Int) < (r.length : Int) + 1 := by omega
      clear h1 h2 h3 h4 h hb hN e2 e3 hr1 hA1
      go_enter Tryz.func65, Tryz.ntmps65
      go_wp2
      go_ret
      exact ⟨rfl, HN.out, far_set _ _ _ _⟩
theorem nparse_any (s : ByteArray) (w : World) : Calls Tryz.prog 55 #[.string s] w fun e w' => ∃ n, e = .returned (.tuple #[.agg (Nm.nc (D.nmP s)), .int .i64 n]) ∧ Below w.heap.size w w' := by
  unfold D.nmP
  cases h : Nm.D.isB (D.ns s) with
  | true => exact (Nm.parse_yes s w h).mono fun e w' ⟨he, hb⟩ => ⟨0, he, hb⟩
  | false => exact (Nm.parse_no s w h).mono fun e w' ⟨he, hb⟩ => ⟨15, he, hb⟩
theorem tparse_any (s : ByteArray) (w : World) (hs : s.size ≤ 100) : Calls Tryz.prog 57 #[.string s] w fun e w' => ∃ n, e = .returned (.tuple #[.agg (nc (D.tgP s)), .int .i64 n]) ∧ Below w.heap.size w w' := by
  have e1 : D.tgP s = D.tb ((D.parse (D.ns s)).getD D.rt) := by
    unfold D.tgP
    cases D.parse (D.ns s) with
    | none => rfl
    | some p => rfl
  rw [e1]
  exact (tag_parse s w hs).mono fun e w' ⟨he, hb⟩ => ⟨_, he, hb⟩
end Go.Proofs.YtjblepjkejihcaaGreatDoor
set_option linter.unusedVariables false
set_option linter.unusedSimpArgs false
set_option maxRecDepth 100000
namespace Go.Proofs.YtjblepjkejihcaaGreatDoor
open Go.RowKit
attribute [local go_sem ↓] Go.wp_at_zero Go.wp_at_succ ld_k lv_k st_k eq_k ne_k bd_k ld_b lv_b st_b eq_b ne_b bd_25 ld_r lv_r st_rk eq_rk ne_rk bd_r ld_p lv_p st_px bd_p Nm.ld_a Nm.ld_n Nm.st_a Nm.st_n Nm.eq_a Nm.eq_n Nm.ne_a Nm.ne_n Nm.lv_a Nm.lv_n ld_a ld_n st_a st_n eq_a eq_n ne_a ne_n lv_a lv_n
attribute [local go_sem] run_ldk run_lvk run_stk run_eqk run_nek run_bdk_z run_ldb run_lvb run_stb run_eqb run_neb run_ldr run_lvr run_strk run_eqrk run_nerk run_bdr_z run_ldp run_lvp run_stpx Nm.run_ld_a Nm.run_ld_n Nm.run_st_n Nm.run_eq_a Nm.run_eq_n Nm.run_ne_a Nm.run_ne_n Nm.run_lv_a Nm.run_lv_n Nm.rd_new Nm.rd_old Nm.rd_drew Nm.rd_drewN run_ld_a run_ld_n run_sw_a run_sw_n run_eq_a run_eq_n run_ne_a run_ne_n run_lv_a run_lv_n st_z ne_z eq_z rd_new rd_old rd_drew rd_drewN Shp.rd_new Shp.rd_old Shp.rd_drew Shp.rd_drewN Shp.rd_set Shp.tn_new Shp.tn_old Shp.tn_drew Shp.tn_drewN tn_new tn_old tn_drew tn_drewN rd_set setRow_alloc run_stn3 run_stt15

/-- Every part is short. -/
structure Shrt (q : List ByteArray) : Prop where
  all : ∀ x ∈ q, x.size ≤ 100
theorem nx_short {u : Bool} {q : List ByteArray} (h : Shrt q) : (D.nx u q).1.size ≤ 100 ∧ Shrt (D.nx u q).2 := by
  cases u with
  | false => exact ⟨Nat.zero_le _, h⟩
  | true => cases q with
    | nil => exact ⟨Nat.zero_le _, h⟩
    | cons x r => exact ⟨h.all x (by simp), ⟨fun y hy => h.all y (List.mem_cons_of_mem _ hy)⟩⟩
theorem Far.env {g : Nat} {w w' : World} (h : Far g w w') (hE : Env w) (h1 : 0 ≠ g) (h2 : 5 ≠ g) (h3 : 6 ≠ g) : Env w' := by
  obtain ⟨⟨m, c1⟩, ⟨v, c2, c3⟩, ⟨u, c4, c5⟩⟩ := hE
  exact ⟨⟨m, h.cell c1 h1⟩, ⟨v, h.cell c2 h2, c3⟩, ⟨u, h.cell c4 h3, c5⟩⟩
theorem Env.ne {w : World} (hE : Env w) {g : Nat} (hg : w.heap.size ≤ g) : 0 ≠ g ∧ 5 ≠ g ∧ 6 ≠ g := by
  obtain ⟨⟨m, c1⟩, ⟨v, c2, c3⟩, ⟨u, c4, c5⟩⟩ := hE
  have a1 := World.block_lt_of_cell? w _ c1
  have a2 := World.block_lt_of_cell? w _ c2
  have a3 := World.block_lt_of_cell? w _ c4
  simp only at a1 a2 a3
  refine ⟨?_, ?_, ?_⟩ <;> omega
/-- How far spelled has come. -/
structure Sp (w0 w : World) (U : Nat) (k : Int) (q : List ByteArray) : Prop where
  pv : PV w0.heap.size w q
  tk : Shp.tn 25 w (w0.heap.size + 1) = true
  us : Blk w U 75 (usev k)
  un : U ≠ w0.heap.size
  bel : Below w0.heap.size w0 w
  env : Env w
  sh : Shrt q
theorem Sp.on {w0 w w' : World} {U : Nat} {k : Int} {q : List ByteArray} (h : Sp w0 w U k q) (hb : Below w.heap.size w w') : Sp w0 w' U k q :=
  ⟨h.pv.on hb, Shp.tn_on h.tk hb, h.us.on hb, h.un, below_up h.bel h.bel.size hb, h.env.on hb, h.sh⟩
theorem Sp.alloc {w0 w : World} {U : Nat} {k : Int} {q : List ByteArray} (h : Sp w0 w U k q) (o : Obj) : Sp w0 (w.alloc o) U k q := h.on (below_alloc_ w o)
theorem Sp.next {w0 w w' : World} {U : Nat} {k : Int} {q : List ByteArray} (h : Sp w0 w U k q) (hE : Env w0) {u : Bool} (hp : PV w0.heap.size w' (D.nx u q).2) (hf : Far w0.heap.size w w') : Sp w0 w' U k (D.nx u q).2 := by
  obtain ⟨n1, n2, n3⟩ := hE.ne (Nat.le_refl w0.heap.size)
  exact ⟨hp, (Shp.tn_to (hf.block _ (Shp.tn_lt h.tk) (by omega))).trans h.tk, hf.blk h.us h.un, h.un, hf.below h.bel (Nat.le_refl _) h.bel.size, hf.env h.env n1 n2 n3, (nx_short h.sh).2⟩
theorem Sp.u {w0 w : World} {U : Nat} {k : Int} {q : List ByteArray} (h : Sp w0 w U k q) : w.cell? ⟨U, 0, none⟩ = some (.int .i64 (D.ats k : Int)) ∧ w.cell? ⟨U, 1, none⟩ = some (.bool (D.nmd k)) ∧ w.cell? ⟨U, 2, none⟩ = some (.bool (D.tgd k)) := ⟨(h.us.c 0).trans rfl, (h.us.c 1).trans rfl, (h.us.c 2).trans rfl⟩
theorem Sp.drew {w0 w : World} {U : Nat} {k : Int} {q : List ByteArray} (h : Sp w0 w U k q) : Sp w0 w.drew U k q := h.on ((Below.refl _ _).drew)
theorem gt_int (n : Nat) : decide ((0 : Int) < (n : Int)) = decide (0 < n) := by rw [decide_eq_decide]; omega

set_option maxHeartbeats 8000000 in
theorem spelled_key (letter : ByteArray) (A : Option Addr) (c : Nat) (q : List ByteArray) (w : World) (hq : Shrt q) (hc : q.length ≤ c) (hA : ∀ ad, A = some ad → ad.block < w.heap.size) (hr : Row w A q.length (q.map Value.string)) (hE : Env w) :
    Calls Tryz.prog 46 #[.string letter, .slice A q.length c] w fun e w' => e = .returned (.tuple #[.agg (kS.v (D.spld letter q).1), .int .i64 (D.spld letter q).2]) ∧ Below w.heap.size w w' := by
  have HS : Kept (D.spld letter q = D.kof (D.knd letter) (D.num (D.nx true q).1) (D.num (D.nx (decide (0 < D.ats (D.knd letter))) (D.nx true q).2).1) (D.nmP (D.nx (D.nmd (D.knd letter)) (D.nx (decide (0 < D.ats (D.knd letter))) (D.nx true q).2).2).1) (D.tgP (D.nx (D.tgd (D.knd letter)) (D.nx (D.nmd (D.knd letter)) (D.nx (decide (0 < D.ats (D.knd letter))) (D.nx true q).2).2).2).1)) := ⟨rfl⟩
  obtain ⟨j, hj⟩ : ∃ j, Lib.index D.letS letter.data.toList = j := ⟨_, rfl⟩
  have j0 : -1 ≤ j := by rw [← hj]; exact Lib.index_ge _ _
  have j6 : j ≤ 6 := by rw [← hj]; exact Lib.index_le _ _
  have hk : D.knd letter = j + 1 := by unfold D.knd; rw [hj]
  rw [hk] at HS
  obtain ⟨W0, hW0⟩ : ∃ W, (w.alloc (.cells #[.slice A q.length c] 84)).alloc (.cells z25 33) = W := ⟨_, rfl⟩
  have e0 : W0.heap.size = w.heap.size + 2 := by rw [← hW0]; simp
  have z0 : Below w.heap.size w W0 := by rw [← hW0]; exact (below_alloc_ _ _).alloc (by simp) _
  have pv : PV w.heap.size W0 q := by
    rw [← hW0]
    exact ⟨A, c, hc, (Blk.new w _ _).alloc _, (hr.on (below_alloc_ _ _)).on (below_alloc_ _ _), fun ad e => Nat.ne_of_lt (hA ad e)⟩
  have tk : Shp.tn 25 W0 (w.heap.size + 1) = true := by rw [← hW0]; exact Shp.tn_new _ _ _ _ _ (by simp) rfl
  have E0 : Env W0 := hE.on z0
  unfold z25 at hW0
  have CX := Lib.hid (show Calls Tryz.prog 64 #[.string ⟨#[112, 103, 108, 98, 115, 116]⟩, .string letter] W0 fun e w' => e = .returned (.int .i64 j) ∧ W0 = w' from by
    have := index_any ⟨#[112, 103, 108, 98, 115, 116]⟩ letter W0 (by decide) E0
    rw [show (⟨#[112, 103, 108, 98, 115, 116]⟩ : ByteArray).data.toList = D.letS from rfl, hj] at this
    exact this)
  have CU := Lib.hid (fun w => (show Calls Tryz.prog 33 #[.int .i64 (j + 1)] w fun e w' => e = .returned (.tuple #[.agg #[.int .i64 (D.ats (j + 1) : Int), .bool (D.nmd (j + 1)), .bool (D.tgd (j + 1))], .bool (decide (1 ≤ j + 1 ∧ j + 1 ≤ 6))]) ∧ Below w.heap.size w w' from useOf_any (j + 1) w))
  clear hk hr hA hc
  go_enter Tryz.func46, Tryz.ntmps46
  go_wp2_with fail
  try rw [hW0]
  clear hW0
  go_wp2_with (first
    | (go_at_call 64; (with_reducible refine CX.out.mono ?_); rintro e v0 ⟨rfl, rfl⟩)
    | (go_at_call 33; (with_reducible refine (CU.out _).mono ?_); rintro e w1 ⟨rfl, b1⟩))
  obtain ⟨W1, hW1⟩ : ∃ W, w1.alloc (.cells (usev (j + 1)) 75) = W := ⟨_, rfl⟩
  have s1 : Sp w W1 w1.heap.size (j + 1) q := by
    have b2 : Below W0.heap.size W0 W1 := by rw [← hW1]; exact b1.alloc b1.size _
    have UB := Blk.new w1 75 (usev (j + 1))
    rw [hW1] at UB
    exact ⟨pv.on b2, Shp.tn_on tk b2, UB, by have := b1.size; omega, below_up z0 z0.size b2, E0.on b2, hq⟩
  unfold usev at hW1
  try rw [hW1]
  obtain ⟨U, hU⟩ : ∃ U, w1.heap.size = U := ⟨_, rfl⟩
  rw [hU] at s1
  rw [hU]
  clear hW1 hU b1 pv tk E0 z0 hq e0
  obtain ⟨kk, hkk⟩ : ∃ kk, j + 1 = kk := ⟨_, rfl⟩
  rw [hkk] at s1 HS
  have g0 := s1.drew
  refine wp_region_noPanic ?_
  refine wp_region_held_drew (S := fun V => ∃ q', Sp w V U kk q') (by kernel_rfl) ⟨q, g0⟩ (fun _ => ?_)
  refine takeS 0 (some 25) ?va0 (by kernel_rfl) (by kernel_rfl) (by kernel_rfl) (by kernel_rfl) (fun _ _ _ h => h) (by rfl) ?hya0 ⟨q, g0⟩ ?resta0
  case hya0 => (intro o ho W hW; simp only [List.getElem?_toArray, List.getElem?_cons_succ, List.getElem?_cons_zero, Option.some.injEq] at ho; subst ho; (try dsimp only at hW); obtain ⟨q', hS⟩ := hW; obtain ⟨u0, u1, u2⟩ := hS.u; go_simp; try rfl)
  try simp only [Act.put, List.setIfInBounds_toArray, List.set_cons_zero, List.set_cons_succ]
  refine takeS 3 (some 28) ?va3 (by kernel_rfl) (by kernel_rfl) (by kernel_rfl) (by kernel_rfl) (fun _ _ _ h => h) (by rfl) ?hya3 ⟨q, g0⟩ ?resta3
  case hya3 => (intro o ho W hW; simp only [List.getElem?_toArray, List.getElem?_cons_succ, List.getElem?_cons_zero, Option.some.injEq] at ho; subst ho; (try dsimp only at hW); obtain ⟨q', hS⟩ := hW; obtain ⟨u0, u1, u2⟩ := hS.u; go_simp; try rfl)
  try simp only [Act.put, List.setIfInBounds_toArray, List.set_cons_zero, List.set_cons_succ]
  refine takeS 4 (some 29) ?va4 (by kernel_rfl) (by kernel_rfl) (by kernel_rfl) (by kernel_rfl) (fun _ _ _ h => h) (by rfl) ?hya4 ⟨q, g0⟩ ?resta4
  case hya4 => (intro o ho W hW; simp only [List.getElem?_toArray, List.getElem?_cons_succ, List.getElem?_cons_zero, Option.some.injEq] at ho; subst ho; (try dsimp only at hW); obtain ⟨q', hS⟩ := hW; obtain ⟨u0, u1, u2⟩ := hS.u; go_simp; try rfl)
  try simp only [Act.put, List.setIfInBounds_toArray, List.set_cons_zero, List.set_cons_succ]
  refine takeS 5 (some 30) ?va5 (by kernel_rfl) (by kernel_rfl) (by kernel_rfl) (by kernel_rfl) (fun _ _ _ h => h) (by rfl) ?hya5 ⟨q, g0⟩ ?resta5
  case hya5 => (intro o ho W hW; simp only [List.getElem?_toArray, List.getElem?_cons_succ, List.getElem?_cons_zero, Option.some.injEq] at ho; subst ho; (try dsimp only at hW); obtain ⟨q', hS⟩ := hW; obtain ⟨u0, u1, u2⟩ := hS.u; go_simp; try rfl)
  try simp only [Act.put, List.setIfInBounds_toArray, List.set_cons_zero, List.set_cons_succ]
  refine takeS 6 (some 31) (.bool (decide (0 < D.ats kk))) (by kernel_rfl) (by kernel_rfl) (by kernel_rfl) (by kernel_rfl) (fun _ _ _ h => h) (by rfl) ?hya6 ⟨q, g0⟩ ?resta6
  case hya6 => (intro o ho W hW; simp only [List.getElem?_toArray, List.getElem?_cons_succ, List.getElem?_cons_zero, Option.some.injEq] at ho; subst ho; (try dsimp only at hW); obtain ⟨q', hS⟩ := hW; obtain ⟨u0, u1, u2⟩ := hS.u; go_simp; (first | done | rfl | rw [gt_int]))
  try simp only [Act.put, List.setIfInBounds_toArray, List.set_cons_zero, List.set_cons_succ]
  refine nextS 1 (by kernel_rfl) (by rfl) (fun o ho K hK => ?_)
  simp only [List.getElem?_toArray, List.getElem?_cons_succ, List.getElem?_cons_zero, Option.some.injEq] at ho; subst ho
  go_simp
  (go_at_call 65; (with_reducible refine (next_any w.heap.size true q _ g0.pv).mono ?_); rintro e v1 ⟨rfl, pv1, fv1⟩)
  have gv1 := g0.next hE pv1 fv1
  refine hK.out _ _ ⟨_, gv1⟩ (fun _ => ?_)
  clear hK K
  try simp only [Act.put, List.setIfInBounds_toArray, List.set_cons_zero, List.set_cons_succ]
  refine nextS 2 (by kernel_rfl) (by rfl) (fun o ho K hK => ?_)
  simp only [List.getElem?_toArray, List.getElem?_cons_succ, List.getElem?_cons_zero, Option.some.injEq] at ho; subst ho
  go_simp
  (go_at_call 66; (with_reducible refine (number_any (D.nx true q).1 _ (nx_short s1.sh).1 gv1.env).mono ?_); rintro e v2 ⟨rfl, bv2⟩)
  have gv2 := gv1.on bv2
  refine hK.out _ _ ⟨_, gv2⟩ (fun _ => ?_)
  clear hK K
  try simp only [Act.put, List.setIfInBounds_toArray, List.set_cons_zero, List.set_cons_succ]
  refine nextS 7 (by kernel_rfl) (by rfl) (fun o ho K hK => ?_)
  simp only [List.getElem?_toArray, List.getElem?_cons_succ, List.getElem?_cons_zero, Option.some.injEq] at ho; subst ho
  go_simp
  (go_at_call 65; (with_reducible refine (next_any w.heap.size (decide (0 < D.ats kk)) (D.nx true q).2 _ gv2.pv).mono ?_); rintro e v3 ⟨rfl, pv3, fv3⟩)
  have gv3 := gv2.next hE pv3 fv3
  refine hK.out _ _ ⟨_, gv3⟩ (fun _ => ?_)
  clear hK K
  try simp only [Act.put, List.setIfInBounds_toArray, List.set_cons_zero, List.set_cons_succ]
  refine nextS 8 (by kernel_rfl) (by rfl) (fun o ho K hK => ?_)
  simp only [List.getElem?_toArray, List.getElem?_cons_succ, List.getElem?_cons_zero, Option.some.injEq] at ho; subst ho
  go_simp
  (go_at_call 66; (with_reducible refine (number_any (D.nx (decide (0 < D.ats kk)) (D.nx true q).2).1 _ (nx_short (nx_short s1.sh).2).1 gv3.env).mono ?_); rintro e v4 ⟨rfl, bv4⟩)
  have gv4 := gv3.on bv4
  refine hK.out _ _ ⟨_, gv4⟩ (fun _ => ?_)
  clear hK K
  try simp only [Act.put, List.setIfInBounds_toArray, List.set_cons_zero, List.set_cons_succ]
  refine takeS 9 (some 10) ?vb9 (by kernel_rfl) (by kernel_rfl) (by kernel_rfl) (by kernel_rfl) (fun _ _ _ h => h) (by rfl) ?hyb9 ⟨_, gv4⟩ ?restb9
  case hyb9 => (intro o ho W hW; simp only [List.getElem?_toArray, List.getElem?_cons_succ, List.getElem?_cons_zero, Option.some.injEq] at ho; subst ho; (try dsimp only at hW); obtain ⟨q', hS⟩ := hW; obtain ⟨u0, u1, u2⟩ := hS.u; go_simp; try rfl)
  try simp only [Act.put, List.setIfInBounds_toArray, List.set_cons_zero, List.set_cons_succ]
  refine takeS 10 (some 11) ?vc10 (by kernel_rfl) (by kernel_rfl) (by kernel_rfl) (by kernel_rfl) (fun _ _ _ h => h) (by rfl) ?hyc10 ⟨_, gv4⟩ ?restc10
  case hyc10 => (intro o ho W hW; simp only [List.getElem?_toArray, List.getElem?_cons_succ, List.getElem?_cons_zero, Option.some.injEq] at ho; subst ho; (try dsimp only at hW); obtain ⟨q', hS⟩ := hW; obtain ⟨u0, u1, u2⟩ := hS.u; go_simp; try rfl)
  try simp only [Act.put, List.setIfInBounds_toArray, List.set_cons_zero, List.set_cons_succ]
  refine wpAnyH_done (by kernel_rfl) ?_ _
  refine NoPanic.normal ?_
  obtain ⟨u0, u1, u2⟩ := gv4.u
  have cS := gv4.sh
  obtain ⟨q2, hq2⟩ : ∃ q2, (D.nx (decide (0 < D.ats kk)) (D.nx true q).2).2 = q2 := ⟨_, rfl⟩
  rw [hq2] at gv4 cS
  have h3 := nx_short (u := D.nmd kk) cS
  have h4 := nx_short (u := D.tgd kk) h3.2
  have CN := Lib.hid (fun w => nparse_any (D.nx (D.nmd kk) q2).1 w)
  have CT := Lib.hid (fun w => tparse_any (D.nx (D.tgd kk) (D.nx (D.nmd kk) q2).2).1 w h4.1)
  clear gv1 gv2 gv3 pv1 pv3 fv1 fv3 bv2 bv4 g0 s1
  go_wp2_with (first
    | (go_at_call 65; (with_reducible refine (next_any w.heap.size (D.nmd kk) q2 _ gv4.pv).mono ?_); rintro e v5 ⟨rfl, p5, f5⟩; have g5 := gv4.next hE p5 f5)
    | (go_at_call 55; (with_reducible refine (CN.out _).mono ?_); rintro e v6 ⟨n6, rfl, b6⟩; have g6 := g5.on b6; have x6 := Nm.rd_new v6 _ 23 (D.nmP (D.nx (D.nmd kk) q2).1) rfl; have g7 := g6.alloc (.cells (Nm.nc (D.nmP (D.nx (D.nmd kk) q2).1)) 23); obtain ⟨u0, u1, u2⟩ := g7.u)
    | (go_at_call 65; (with_reducible refine (next_any w.heap.size (D.tgd kk) (D.nx (D.nmd kk) q2).2 _ g7.pv).mono ?_); rintro e v8 ⟨rfl, p8, f8⟩; have g8 := g7.next hE p8 f8; have x8 := (Nm.rd_to (f8.block _ (Nm.rd_lt x6) (by have := g6.bel.size; have := Shp.tn_lt g6.tk; show v6.heap.size ≠ w.heap.size; omega))).trans x6)
    | (go_at_call 57; (with_reducible refine (CT.out _).mono ?_); rintro e v9 ⟨n9, rfl, b9⟩; have g9 := g8.on b9; have x9 := Nm.rd_on x8 b9; have g10 := g9.alloc (.cells (nc (D.tgP (D.nx (D.tgd kk) (D.nx (D.nmd kk) q2).2).1)) 27); have y10 := rd_new v9 _ 27 (D.tgP (D.nx (D.tgd kk) (D.nx (D.nmd kk) q2).2).1) rfl; have sx := Nm.rd_lt x9)
    | (go_at_call 11; (with_reducible refine (keyof_any _ _ _ _ _ _).mono ?_); rintro e v11 ⟨rfl, b11⟩; have g11 := g10.on b11; have k11 := g11.tk))

  obtain ⟨y, hy⟩ : ∃ y, D.spld letter q = y := ⟨_, rfl⟩
  rw [hq2] at HS
  have HE := HS.out
  have hset := Shp.rd_set (S := kS) v11 (w.heap.size + 1) (D.spld letter q).1 k11
  have z9 := below_setRow g11.bel (Nat.le_succ _) (kS.v (D.spld letter q).1)
  rw [HE] at hset z9
  rw [HE]
  exact bodyPost_ret (v := .tuple #[.agg (kS.v _), .int .i64 _]) (by rw [results_cell_tmp rfl]; simp [asAddr, Result.andThen, lvk_of hset]) rfl ⟨rfl, z9⟩
end Go.Proofs.YtjblepjkejihcaaGreatDoor
set_option linter.unusedVariables false
set_option linter.unusedSimpArgs false
set_option maxRecDepth 100000
namespace Go.Proofs.YtjblepjkejihcaaGreatDoor
open Go.RowKit
attribute [local go_sem ↓] Go.wp_at_zero Go.wp_at_succ ld_k lv_k st_k eq_k ne_k bd_k ld_b lv_b st_b eq_b ne_b bd_25 ld_r lv_r st_rk eq_rk ne_rk bd_r ld_p lv_p st_px bd_p Nm.ld_a Nm.ld_n Nm.st_a Nm.st_n Nm.eq_a Nm.eq_n Nm.ne_a Nm.ne_n Nm.lv_a Nm.lv_n ld_a ld_n st_a st_n eq_a eq_n ne_a ne_n lv_a lv_n
attribute [local go_sem] run_ldk run_lvk run_stk run_eqk run_nek run_bdk_z run_ldb run_lvb run_stb run_eqb run_neb run_ldr run_lvr run_strk run_eqrk run_nerk run_bdr_z run_ldp run_lvp run_stpx Nm.run_ld_a Nm.run_ld_n Nm.run_st_n Nm.run_eq_a Nm.run_eq_n Nm.run_ne_a Nm.run_ne_n Nm.run_lv_a Nm.run_lv_n Nm.rd_new Nm.rd_old Nm.rd_drew Nm.rd_drewN run_ld_a run_ld_n run_sw_a run_sw_n run_eq_a run_eq_n run_ne_a run_ne_n run_lv_a run_lv_n st_z ne_z eq_z rd_new rd_old rd_drew rd_drewN Shp.rd_new Shp.rd_old Shp.rd_drew Shp.rd_drewN Shp.rd_set Shp.tn_new Shp.tn_old Shp.tn_drew Shp.tn_drewN tn_new tn_old tn_drew tn_drewN rd_set setRow_alloc run_stn3 run_stt15

theorem toList_inj' {a b : ByteArray} (h : a.toList = b.toList) : a = b := by
  rw [ByteArray.toList_eq, ByteArray.toList_eq] at h
  obtain ⟨⟨x⟩⟩ := a
  obtain ⟨⟨y⟩⟩ := b
  simp at h
  rw [h]
theorem spk_size {s : ByteArray} (hs : s.size ≤ 100) {xs : List ByteArray} (h : xs.map D.ns = D.spk 5 (D.ns s)) : ∀ x ∈ xs, x.size ≤ 100 := fun x hx => by
  have := D.spk_len 5 (D.ns s) (D.ns x) (by rw [← h]; exact List.mem_map_of_mem hx)
  rw [D.ns_len, D.ns_len] at this
  omega
theorem ksplit_key (s : ByteArray) (w : World) (hs : s.size ≤ 100) :
    Calls Tryz.prog 45 #[.string s, .string slash, .int .i64 6] w fun e w' => ∃ (x0 : ByteArray) (q : List ByteArray) (N : Nat), e = .returned (.slice (some ⟨w.heap.size, 0, none⟩) (q.length + 1) (N + 1)) ∧ q.length ≤ N ∧ w.heap.size < w'.heap.size ∧ Below w.heap.size w w' ∧ Row w' (some ⟨w.heap.size, 0, none⟩) (q.length + 1) (.string x0 :: q.map Value.string) ∧ Kept (D.spk 5 (D.ns s) = D.ns x0 :: q.map D.ns) ∧ x0.size ≤ 100 ∧ Shrt q := by
  refine (ksplit_any s w hs).mono fun e w' ⟨xs, N, h1, h2, h3, he, hw⟩ => ?_
  have hpl := spk_size hs h1
  have hc := D.spk_cnt 5 (D.ns s)
  cases xs with
  | nil => rw [← h1] at hc; simp at hc
  | cons x0 xs =>
    have hr := cells_row w (x0 :: xs) N h2 9
    simp only [List.length_cons] at h2
    refine ⟨x0, xs, N - 1, ?_, by omega, ?_, ?_, ?_, ⟨h1.symm⟩, hpl x0 (by simp), ⟨fun x hx => hpl x (by simp [hx])⟩⟩
    · rw [he, show N - 1 + 1 = N by omega]; rfl
    · rw [hw]; simp
    · rw [hw]; exact below_alloc_ _ _
    · rw [hw]; exact hr
theorem kparse_of {s x0 : ByteArray} {q : List ByteArray} (h : D.spk 5 (D.ns s) = D.ns x0 :: q.map D.ns) : D.kparse s = if (D.spld x0 q).2 = 0 ∧ D.ktx (D.spld x0 q).1 = D.ns s then D.spld x0 q else (D.zK, 3) := by
  have e1 : D.sb (D.ns x0) = x0 := D.sb_ns x0
  have e2 : (q.map D.ns).map D.sb = q := by rw [List.map_map]; conv => rhs; rw [← List.map_id q]
                                            exact List.map_congr_left fun x _ => D.sb_ns x
  unfold D.kparse
  rw [h]
  simp only [e1, e2]
theorem from1_blk {A1 : Option Addr} {G : Nat} (h : ∀ b, (∀ ad, (some ⟨G, 0, none⟩ : Option Addr) = some ad → ad.block ≠ b) → ∀ ad, A1 = some ad → ad.block ≠ b) : ∀ ad, A1 = some ad → ad.block = G := fun ad e => by
  by_cases hg : ad.block = G
  · exact hg
  · exact absurd rfl (h ad.block (fun a ha => by injection ha with ha; subst ha; exact fun e => hg e.symm) ad e)

set_option maxHeartbeats 8000000 in
theorem kparse_any (s : ByteArray) (w : World) (hs : s.size ≤ 100) (hE : Env w) :
    Calls Tryz.prog 21 #[.string s] w fun e w' => e = .returned (.tuple #[.agg (kS.v (D.kparse s).1), .int .i64 (D.kparse s).2]) ∧ Below w.heap.size w w' := by
  have CS := Lib.hid (fun w => ksplit_key s w hs)
  have tk := Shp.tn_new 25 w _ 33 z25 rfl rfl
  have zz := below_alloc_ w (.cells z25 33)
  obtain ⟨W0, hW0⟩ : ∃ W, w.alloc (.cells z25 33) = W := ⟨_, rfl⟩
  rw [hW0] at tk zz
  unfold z25 at hW0
  have E0 := hE.on zz
  go_enter Tryz.func21, Tryz.ntmps21
  go_wp2_with fail
  try rw [hW0]
  clear hW0
  go_wp2_with (go_at_call 45; (with_reducible refine (CS.out _).mono ?_); rintro e W ⟨x0, q, N, rfl, hqN, hlt, b1, hr, HK, hx0, hsh⟩)
  have tW := Shp.tn_on tk b1
  have zW := below_up zz zz.size b1
  have EW := E0.on b1
  obtain ⟨G, hG⟩ : ∃ G, W0.heap.size = G := ⟨_, rfl⟩
  rw [hG] at hr hlt
  rw [hG]
  obtain ⟨ad, had, hx⟩ := hr.cell (k := 0) (u := .string x0) rfl
  injection had with had
  subst had
  rw [add_zero_] at hx
  obtain ⟨A1, e1, e2, e3⟩ := from1_s (some ⟨G, 0, none⟩) q.length N hqN
  have hA1 := from1_blk e3
  have hr1 := e2 W (.string x0) (q.map Value.string) hr
  clear e2 e3 hr CS tk b1 E0 hE zz
  have hq1 : (0 : Int) < (q.length : Int) + 1 := by omega
  obtain ⟨⟨y, er⟩, hy⟩ : ∃ y, D.spld x0 q = y := ⟨_, rfl⟩
  have CK := Lib.hid (fun V (b : Below W.heap.size W V) => (show Calls Tryz.prog 46 #[.string x0, .slice A1 q.length N] V fun e w' => e = .returned (.tuple #[.agg (kS.v y), .int .i64 er]) ∧ Below V.heap.size V w' from by
    have := spelled_key x0 A1 N q V hsh hqN (fun ad e => by rw [hA1 ad e]; exact Nat.lt_of_lt_of_le hlt b.size) (hr1.on b) (EW.on b)
    rwa [hy] at this))
  have zd : Below W.heap.size W W.drew := (Below.refl _ _).drew
  clear hG
  refine wp_region_noPanic ?_
  refine wp_region_held_drew (S := fun V => Below W.heap.size W V) (by kernel_rfl) zd (fun _ => ?_)
  refine takeS 0 (some 10) ?va0 (by kernel_rfl) (by kernel_rfl) (by kernel_rfl) (by kernel_rfl) (fun _ _ _ h => h) (by rfl) ?hya0 zd ?resta0
  case hya0 => (intro o ho W hW; simp only [List.getElem?_toArray, List.getElem?_cons_succ, List.getElem?_cons_zero, Option.some.injEq] at ho; subst ho; (try dsimp only at hW); have hxW := cell_kept_ hW hx; go_simp; try rfl)
  try simp only [Act.put, List.setIfInBounds_toArray, List.set_cons_zero, List.set_cons_succ]
  refine takeS 1 (some 11) ?va1 (by kernel_rfl) (by kernel_rfl) (by kernel_rfl) (by kernel_rfl) (fun _ _ _ h => h) (by rfl) ?hya1 zd ?resta1
  case hya1 => (intro o ho W hW; simp only [List.getElem?_toArray, List.getElem?_cons_succ, List.getElem?_cons_zero, Option.some.injEq] at ho; subst ho; (try dsimp only at hW); have hxW := cell_kept_ hW hx; go_simp; try rfl)
  try simp only [Act.put, List.setIfInBounds_toArray, List.set_cons_zero, List.set_cons_succ]
  refine takeS 2 (some 12) ?va2 (by kernel_rfl) (by kernel_rfl) (by kernel_rfl) (by kernel_rfl) (fun _ _ _ h => h) (by rfl) ?hya2 zd ?resta2
  case hya2 => (intro o ho W hW; simp only [List.getElem?_toArray, List.getElem?_cons_succ, List.getElem?_cons_zero, Option.some.injEq] at ho; subst ho; (try dsimp only at hW); have hxW := cell_kept_ hW hx; go_simp; try rfl)
  try simp only [Act.put, List.setIfInBounds_toArray, List.set_cons_zero, List.set_cons_succ]
  refine takeS 3 (some 13) ?va3 (by kernel_rfl) (by kernel_rfl) (by kernel_rfl) (by kernel_rfl) (fun _ _ _ h => h) (by rfl) ?hya3 zd ?resta3
  case hya3 => (intro o ho W hW; simp only [List.getElem?_toArray, List.getElem?_cons_succ, List.getElem?_cons_zero, Option.some.injEq] at ho; subst ho; (try dsimp only at hW); have hxW := cell_kept_ hW hx; go_simp; try rfl)
  try simp only [Act.put, List.setIfInBounds_toArray, List.set_cons_zero, List.set_cons_succ]
  refine takeS 4 (some 14) (.slice A1 q.length N) (by kernel_rfl) (by kernel_rfl) (by kernel_rfl) (by kernel_rfl) (fun _ _ _ h => h) (by rfl) ?hya4 zd ?resta4
  case hya4 => (intro o ho W hW; simp only [List.getElem?_toArray, List.getElem?_cons_succ, List.getElem?_cons_zero, Option.some.injEq] at ho; subst ho; (try dsimp only at hW); have hxW := cell_kept_ hW hx; go_simp; (first | done | rfl | (rw [e1]; rfl) | (simp [e1])))
  try simp only [Act.put, List.setIfInBounds_toArray, List.set_cons_zero, List.set_cons_succ]
  refine forkS 5 9 (by kernel_rfl) (by rfl) (by rfl) (fun o ho K hK => ?_) (fun o ho K hK => ?_)
  · simp only [List.getElem?_toArray, List.getElem?_cons_succ, List.getElem?_cons_zero, Option.some.injEq] at ho; subst ho
    go_simp
    (go_at_call 46; (with_reducible refine (CK.out _ zd).mono ?_); rintro e v1 ⟨rfl, b1⟩)
    have g1 : Below W.heap.size W v1 := below_up zd zd.size b1
    refine hK.out _ _ g1 (fun _ => ?_)
    clear hK K
    try simp only [Act.put, List.setIfInBounds_toArray, List.set_cons_zero, List.set_cons_succ]
    refine takeS 6 (some 9) ?vb6 (by kernel_rfl) (by kernel_rfl) (by kernel_rfl) (by kernel_rfl) (fun _ _ _ h => h) (by rfl) ?hyb6 g1 ?restb6
    case hyb6 => (intro o ho W hW; simp only [List.getElem?_toArray, List.getElem?_cons_succ, List.getElem?_cons_zero, Option.some.injEq] at ho; subst ho; (try dsimp only at hW); skip; go_simp; try rfl)
    try simp only [Act.put, List.setIfInBounds_toArray, List.set_cons_zero, List.set_cons_succ]
    refine takeS 7 (some 16) ?vb7 (by kernel_rfl) (by kernel_rfl) (by kernel_rfl) (by kernel_rfl) (fun _ _ _ h => h) (by rfl) ?hyb7 g1 ?restb7
    case hyb7 => (intro o ho W hW; simp only [List.getElem?_toArray, List.getElem?_cons_succ, List.getElem?_cons_zero, Option.some.injEq] at ho; subst ho; (try dsimp only at hW); skip; go_simp; try rfl)
    try simp only [Act.put, List.setIfInBounds_toArray, List.set_cons_zero, List.set_cons_succ]
    refine takeS 8 (some 17) ?vb8 (by kernel_rfl) (by kernel_rfl) (by kernel_rfl) (by kernel_rfl) (fun _ _ _ h => h) (by rfl) ?hyb8 g1 ?restb8
    case hyb8 => (intro o ho W hW; simp only [List.getElem?_toArray, List.getElem?_cons_succ, List.getElem?_cons_zero, Option.some.injEq] at ho; subst ho; (try dsimp only at hW); skip; go_simp; try rfl)
    try simp only [Act.put, List.setIfInBounds_toArray, List.set_cons_zero, List.set_cons_succ]
    refine nextS 9 (by kernel_rfl) (by rfl) (fun o ho K hK => ?_)
    simp only [List.getElem?_toArray, List.getElem?_cons_succ, List.getElem?_cons_zero, Option.some.injEq] at ho; subst ho
    go_simp
    refine hK.out _ _ (g1.alloc g1.size _) (fun _ => ?_)
    clear hK K
    try simp only [Act.put, List.setIfInBounds_toArray, List.set_cons_zero, List.set_cons_succ]
    refine nextS 10 (by kernel_rfl) (by rfl) (fun o ho K hK => ?_)
    simp only [List.getElem?_toArray, List.getElem?_cons_succ, List.getElem?_cons_zero, Option.some.injEq] at ho; subst ho
    go_simp
    refine hK.out _ _ (g1.alloc g1.size _) (fun _ => ?_)
    clear hK K
    try simp only [Act.put, List.setIfInBounds_toArray, List.set_cons_zero, List.set_cons_succ]
    refine takeS 11 (some 6) ?vc11 (by kernel_rfl) (by kernel_rfl) (by kernel_rfl) (by kernel_rfl) (fun _ _ _ h => h) (by rfl) ?hyc11 (g1.alloc g1.size _) ?restc11
    case hyc11 => (intro o ho W hW; simp only [List.getElem?_toArray, List.getElem?_cons_succ, List.getElem?_cons_zero, Option.some.injEq] at ho; subst ho; (try dsimp only at hW); skip; go_simp; try rfl)
    try simp only [Act.put, List.setIfInBounds_toArray, List.set_cons_zero, List.set_cons_succ]
    refine wpAnyH_done (by kernel_rfl) ?_ _
    refine NoPanic.normal ?_
    have zY := g1.alloc g1.size (.cells (kS.v y) 33)
    have rY := Shp.rd_new (S := kS) v1 _ 33 y rfl
    obtain ⟨V, hV⟩ : ∃ V, v1.alloc (.cells (kS.v y) 33) = V := ⟨_, rfl⟩
    rw [hV] at zY rY
    try rw [hV]
    clear hV
    have tV := Shp.tn_on tW zY
    have zV := below_up zW zW.size zY
    have HKs := HK.out
    have sB : w.heap.size < V.heap.size := Shp.tn_lt tV
    have sY := Shp.rd_lt rY
    simp only at sY
    by_cases he : er = 0
    · subst he
      have cT := ktext_any y
      by_cases ht : D.ktx y = D.ns s
      · have hP : D.kparse s = (y, 0) := by rw [kparse_of HKs, hy, if_pos ⟨rfl, ht⟩]
        have hs' : D.sb (D.ktx y) = s := by rw [ht, D.sb_ns]
        rw [hs'] at cT
        have CT := Lib.hid cT
        have HP := Lib.hid hP
        clear cT hs' ht hP HKs hy CK
        go_wp2_with (go_at_call 18; (with_reducible refine (CT.out _).mono ?_); rintro e v9 ⟨rfl, b9⟩; have rY9 := Shp.rd_on rY b9; have tV9 := Shp.tn_on tV b9)
        have hset := Shp.rd_set (S := kS) v9 w.heap.size y tV9
        have z9 := below_setRow (below_up zV zV.size b9) (Nat.le_refl _) (kS.v y)
        exact bodyPost_ret (v := .tuple #[.agg (kS.v y), .int .i64 0]) (by rw [results_cell_tmp rfl]; simp [asAddr, Result.andThen, lvk_of hset]) rfl ⟨by rw [HP.out], z9⟩
      · have hP : D.kparse s = (D.zK, 3) := by rw [kparse_of HKs, hy, if_neg (fun h => ht h.2)]
        obtain ⟨u, hu⟩ : ∃ u, D.sb (D.ktx y) = u := ⟨_, rfl⟩
        have hne : ¬ u = s := fun h => ht (by rw [← D.ns_sb (D.ktx_lt y), hu, h])
        have hnb : (u.toList == s.toList) = false := by rw [beq_eq_false_iff_ne]; exact fun h => hne (toList_inj' h)
        rw [hu] at cT
        have CT := Lib.hid cT
        have HP := Lib.hid hP
        clear cT hu ht hP HKs hy CK
        go_wp2_with (go_at_call 18; (with_reducible refine (CT.out _).mono ?_); rintro e v9 ⟨rfl, b9⟩; have rY9 := Shp.rd_on rY b9; have tV9 := Shp.tn_on tV b9)
        have hset := Shp.rd_set (S := kS) v9 w.heap.size D.zK tV9
        have z9 := below_setRow (below_up zV zV.size b9) (Nat.le_refl _) (kS.v D.zK)
        exact bodyPost_ret (v := .tuple #[.agg (kS.v D.zK), .int .i64 3]) (by rw [results_cell_tmp rfl]; simp [asAddr, Result.andThen, lvk_of hset]) rfl ⟨by rw [HP.out], z9⟩
    · have hP : D.kparse s = (D.zK, 3) := by rw [kparse_of HKs, hy, if_neg (fun h => he h.1)]
      have HP := Lib.hid hP
      clear hP HKs hy CK
      go_wp2
      have hset := Shp.rd_set (S := kS) V w.heap.size D.zK tV
      have z9 := below_setRow zV (Nat.le_refl _) (kS.v D.zK)
      exact bodyPost_ret (v := .tuple #[.agg (kS.v D.zK), .int .i64 3]) (by rw [results_cell_tmp rfl]; simp [asAddr, Result.andThen, lvk_of hset]) rfl ⟨by rw [HP.out], z9⟩
  · simp only [List.getElem?_toArray, List.getElem?_cons_succ, List.getElem?_cons_zero, Option.some.injEq] at ho; subst ho
    go_simp
    refine hK.out _ _ (zd.alloc zd.size _) (fun _ => ?_)
    clear hK K
    try simp only [Act.put, List.setIfInBounds_toArray, List.set_cons_zero, List.set_cons_succ]
    have zA := zd.alloc zd.size (.cells z25 33)
    have kA := Shp.tn_new 25 W.drew _ 33 z25 rfl rfl
    obtain ⟨V0, hV0⟩ : ∃ V, W.drew.alloc (.cells z25 33) = V := ⟨_, rfl⟩
    rw [hV0] at zA kA
    unfold z25 at hV0
    try rw [hV0]
    have hV1 : (W.alloc (.cells #[.int .u8 0, .int .u8 0, .int .u8 0, .int .u8 0, .int .u8 0, .int .u8 0, .int .u8 0, .int .u8 0, .int .u8 0, .int .u8 0, .int .u8 0, .int .u8 0, .int .u8 0, .int .u8 0, .int .u8 0, .int .u8 0, .int .u8 0, .int .u8 0, .int .u8 0, .int .u8 0, .int .u8 0, .int .u8 0, .int .u8 0, .int .u8 0, .int .u8 0] 33)).drew = V0 := hV0
    try rw [hV1]
    clear hV0 hV1
    have eA : W.drew.heap.size = W.heap.size := rfl
    rw [eA] at kA
    refine nextS 5 (by kernel_rfl) (by rfl) (fun o ho K hK => ?_)
    simp only [List.getElem?_toArray, List.getElem?_cons_succ, List.getElem?_cons_zero, Option.some.injEq] at ho; subst ho
    go_simp
    (go_at_call 46; (with_reducible refine (CK.out _ zA).mono ?_); rintro e v1 ⟨rfl, b1⟩)
    have g1 : Below W.heap.size W v1 := below_up zA zA.size b1
    have k1 := Shp.tn_on kA b1
    refine hK.out _ _ g1 (fun _ => ?_)
    clear hK K
    try simp only [Act.put, List.setIfInBounds_toArray, List.set_cons_zero, List.set_cons_succ]
    refine takeS 6 (some 9) ?vd6 (by kernel_rfl) (by kernel_rfl) (by kernel_rfl) (by kernel_rfl) (fun _ _ _ h => h) (by rfl) ?hyd6 g1 ?restd6
    case hyd6 => (intro o ho W hW; simp only [List.getElem?_toArray, List.getElem?_cons_succ, List.getElem?_cons_zero, Option.some.injEq] at ho; subst ho; (try dsimp only at hW); skip; go_simp; try rfl)
    try simp only [Act.put, List.setIfInBounds_toArray, List.set_cons_zero, List.set_cons_succ]
    refine takeS 7 (some 16) ?vd7 (by kernel_rfl) (by kernel_rfl) (by kernel_rfl) (by kernel_rfl) (fun _ _ _ h => h) (by rfl) ?hyd7 g1 ?restd7
    case hyd7 => (intro o ho W hW; simp only [List.getElem?_toArray, List.getElem?_cons_succ, List.getElem?_cons_zero, Option.some.injEq] at ho; subst ho; (try dsimp only at hW); skip; go_simp; try rfl)
    try simp only [Act.put, List.setIfInBounds_toArray, List.set_cons_zero, List.set_cons_succ]
    refine takeS 8 (some 17) ?vd8 (by kernel_rfl) (by kernel_rfl) (by kernel_rfl) (by kernel_rfl) (fun _ _ _ h => h) (by rfl) ?hyd8 g1 ?restd8
    case hyd8 => (intro o ho W hW; simp only [List.getElem?_toArray, List.getElem?_cons_succ, List.getElem?_cons_zero, Option.some.injEq] at ho; subst ho; (try dsimp only at hW); skip; go_simp; try rfl)
    try simp only [Act.put, List.setIfInBounds_toArray, List.set_cons_zero, List.set_cons_succ]
    have zY := below_setRow g1 (Nat.le_refl _) (kS.v y)
    refine nextS 10 (by kernel_rfl) (by rfl) (fun o ho K hK => ?_)
    simp only [List.getElem?_toArray, List.getElem?_cons_succ, List.getElem?_cons_zero, Option.some.injEq] at ho; subst ho
    go_simp
    refine hK.out _ _ zY (fun _ => ?_)
    clear hK K
    try simp only [Act.put, List.setIfInBounds_toArray, List.set_cons_zero, List.set_cons_succ]
    refine takeS 11 (some 6) ?ve11 (by kernel_rfl) (by kernel_rfl) (by kernel_rfl) (by kernel_rfl) (fun _ _ _ h => h) (by rfl) ?hye11 zY ?reste11
    case hye11 => (intro o ho W hW; simp only [List.getElem?_toArray, List.getElem?_cons_succ, List.getElem?_cons_zero, Option.some.injEq] at ho; subst ho; (try dsimp only at hW); skip; go_simp; try rfl)
    try simp only [Act.put, List.setIfInBounds_toArray, List.set_cons_zero, List.set_cons_succ]
    refine wpAnyH_done (by kernel_rfl) ?_ _
    refine NoPanic.normal ?_
    have rY := Shp.rd_set (S := kS) v1 W.heap.size y k1
    obtain ⟨V, hV⟩ : ∃ V, v1.setRow W.heap.size (kS.v y) = V := ⟨_, rfl⟩
    rw [hV] at zY rY
    try rw [hV]
    clear hV
    have tV := Shp.tn_on tW zY
    have zV := below_up zW zW.size zY
    have HKs := HK.out
    have sB : w.heap.size < V.heap.size := Shp.tn_lt tV
    have sY := Shp.rd_lt rY
    simp only at sY
    by_cases he : er = 0
    · subst he
      have cT := ktext_any y
      by_cases ht : D.ktx y = D.ns s
      · have hP : D.kparse s = (y, 0) := by rw [kparse_of HKs, hy, if_pos ⟨rfl, ht⟩]
        have hs' : D.sb (D.ktx y) = s := by rw [ht, D.sb_ns]
        rw [hs'] at cT
        have CT := Lib.hid cT
        have HP := Lib.hid hP
        clear cT hs' ht hP HKs hy CK
        go_wp2_with (go_at_call 18; (with_reducible refine (CT.out _).mono ?_); rintro e v9 ⟨rfl, b9⟩; have rY9 := Shp.rd_on rY b9; have tV9 := Shp.tn_on tV b9)
        have hset := Shp.rd_set (S := kS) v9 w.heap.size y tV9
        have z9 := below_setRow (below_up zV zV.size b9) (Nat.le_refl _) (kS.v y)
        exact bodyPost_ret (v := .tuple #[.agg (kS.v y), .int .i64 0]) (by rw [results_cell_tmp rfl]; simp [asAddr, Result.andThen, lvk_of hset]) rfl ⟨by rw [HP.out], z9⟩
      · have hP : D.kparse s = (D.zK, 3) := by rw [kparse_of HKs, hy, if_neg (fun h => ht h.2)]
        obtain ⟨u, hu⟩ : ∃ u, D.sb (D.ktx y) = u := ⟨_, rfl⟩
        have hne : ¬ u = s := fun h => ht (by rw [← D.ns_sb (D.ktx_lt y), hu, h])
        have hnb : (u.toList == s.toList) = false := by rw [beq_eq_false_iff_ne]; exact fun h => hne (toList_inj' h)
        rw [hu] at cT
        have CT := Lib.hid cT
        have HP := Lib.hid hP
        clear cT hu ht hP HKs hy CK
        go_wp2_with (go_at_call 18; (with_reducible refine (CT.out _).mono ?_); rintro e v9 ⟨rfl, b9⟩; have rY9 := Shp.rd_on rY b9; have tV9 := Shp.tn_on tV b9)
        have hset := Shp.rd_set (S := kS) v9 w.heap.size D.zK tV9
        have z9 := below_setRow (below_up zV zV.size b9) (Nat.le_refl _) (kS.v D.zK)
        exact bodyPost_ret (v := .tuple #[.agg (kS.v D.zK), .int .i64 3]) (by rw [results_cell_tmp rfl]; simp [asAddr, Result.andThen, lvk_of hset]) rfl ⟨by rw [HP.out], z9⟩
    · have hP : D.kparse s = (D.zK, 3) := by rw [kparse_of HKs, hy, if_neg (fun h => he h.1)]
      have HP := Lib.hid hP
      clear hP HKs hy CK
      go_wp2
      have hset := Shp.rd_set (S := kS) V w.heap.size D.zK tV
      have z9 := below_setRow zV (Nat.le_refl _) (kS.v D.zK)
      exact bodyPost_ret (v := .tuple #[.agg (kS.v D.zK), .int .i64 3]) (by rw [results_cell_tmp rfl]; simp [asAddr, Result.andThen, lvk_of hset]) rfl ⟨by rw [HP.out], z9⟩
end Go.Proofs.YtjblepjkejihcaaGreatDoor
set_option linter.unusedVariables false
set_option linter.unusedSimpArgs false
set_option maxRecDepth 100000
namespace Go.Proofs.YtjblepjkejihcaaGreatDoor
open Go.RowKit
theorem Shp.rd_ext_ {α : Type} {S : Shp α} (w : World) (p : On) (a : Addr) (h : a.block < w.heap.size) : S.rd (ext w p) a = S.rd w a := Shp.rd_to (ext_heap w p h)
theorem Nm.rd_ext_ (w : World) (p : On) (a : Addr) (h : a.block < w.heap.size) : Nm.rd (ext w p) a = Nm.rd w a := Nm.rd_to (ext_heap w p h)
attribute [local go_sem ↓] Go.wp_at_zero Go.wp_at_succ ld_k lv_k st_k eq_k ne_k bd_k ld_b lv_b st_b eq_b ne_b bd_25 ld_r lv_r st_rk eq_rk ne_rk bd_r ld_p lv_p st_px bd_p Nm.ld_a Nm.ld_n Nm.st_a Nm.st_n Nm.eq_a Nm.eq_n Nm.ne_a Nm.ne_n Nm.lv_a Nm.lv_n ld_a ld_n st_a st_n eq_a eq_n ne_a ne_n lv_a lv_n
attribute [local go_sem] run_ldk run_lvk run_stk run_eqk run_nek run_bdk_z run_ldb run_lvb run_stb run_eqb run_neb run_ldr run_lvr run_strk run_eqrk run_nerk run_bdr_z run_ldp run_lvp run_stpx Nm.run_ld_a Nm.run_ld_n Nm.run_st_n Nm.run_eq_a Nm.run_eq_n Nm.run_ne_a Nm.run_ne_n Nm.run_lv_a Nm.run_lv_n Nm.rd_new Nm.rd_old Nm.rd_drew Nm.rd_drewN run_ld_a run_ld_n run_sw_a run_sw_n run_eq_a run_eq_n run_ne_a run_ne_n run_lv_a run_lv_n st_z ne_z eq_z rd_new rd_old rd_drew rd_drewN Shp.rd_new Shp.rd_old Shp.rd_drew Shp.rd_drewN Shp.rd_set Shp.tn_new Shp.tn_old Shp.tn_drew Shp.tn_drewN setRow_alloc run_stn3 run_stt15 Shp.rd_ext_ cell_ext rd_ext

set_option maxHeartbeats 4000000 in
theorem has_in (q : D.Px) (x : D.Ky) (w : World) (h0 : 0 ≤ q.d) (h5 : q.d ≤ 5) : Calls Tryz.prog 26 #[.agg (pS.v q), .agg (kS.v x)] w fun e w' => e = .returned (.bool (kS.sm (D.upto q.x q.d) (D.upto x q.d))) ∧ Below w.heap.size w w' := by
  obtain ⟨W0, hW0⟩ : ∃ W, (w.alloc (.cells (pS.v q) 58)).alloc (.cells (kS.v x) 33) = W := ⟨_, rfl⟩
  have p0 : pS.rd W0 ⟨w.heap.size, 0, none⟩ = some q := by rw [← hW0]; exact Shp.rd_on (Shp.rd_new (S := pS) w _ _ q rfl) (below_alloc_ _ _)
  have f1 : kS.rd W0 ⟨w.heap.size + 1, 0, none⟩ = some x := by rw [← hW0]; exact Shp.rd_new _ _ _ _ (by simp)
  have z0 : Below w.heap.size w W0 := by rw [← hW0]; exact (below_alloc_ _ _).alloc (by simp) _
  have s0 : w.heap.size < W0.heap.size := by rw [← hW0]; simp; omega
  have s1 : w.heap.size + 1 < W0.heap.size := by rw [← hW0]; simp
  obtain ⟨f0, c0⟩ := pf0 p0
  have g0 : decide (0 ≤ q.d) = true := decide_eq_true h0
  have g5 : decide (q.d ≤ 5) = true := decide_eq_true h5
  have C1 := Lib.hid (upto_any q.x q.d)
  have C2 := Lib.hid (upto_any x q.d)
  clear p0
  go_enter Tryz.func26, Tryz.ntmps26
  go_wp2_with fail
  try rw [hW0]
  clear hW0
  refine wp_region_ext (by kernel_rfl) (by kernel_rfl) ?_
  repeat (go_big_quiet_step (first | (go_at_call 50; with_reducible exact calls_ext (C1.out _)) | (go_at_call 50; with_reducible exact calls_ext (C2.out _))))
  refine wpQuiet_nil ?_
  intro w4 hw4
  have b4 := ext_to hw4
  clear hw4
  go_wp2
  go_ret
  exact ⟨by rfl, below_up z0 (Nat.le_of_lt s0) b4⟩

set_option maxHeartbeats 4000000 in
theorem has_neg (q : D.Px) (x : D.Ky) (w : World) (h0 : q.d < 0) : Calls Tryz.prog 26 #[.agg (pS.v q), .agg (kS.v x)] w fun e w' => e = .returned (.bool false) ∧ Below w.heap.size w w' := by
  obtain ⟨W0, hW0⟩ : ∃ W, (w.alloc (.cells (pS.v q) 58)).alloc (.cells (kS.v x) 33) = W := ⟨_, rfl⟩
  have p0 : pS.rd W0 ⟨w.heap.size, 0, none⟩ = some q := by rw [← hW0]; exact Shp.rd_on (Shp.rd_new (S := pS) w _ _ q rfl) (below_alloc_ _ _)
  have f1 : kS.rd W0 ⟨w.heap.size + 1, 0, none⟩ = some x := by rw [← hW0]; exact Shp.rd_new _ _ _ _ (by simp)
  have z0 : Below w.heap.size w W0 := by rw [← hW0]; exact (below_alloc_ _ _).alloc (by simp) _
  have s0 : w.heap.size < W0.heap.size := by rw [← hW0]; simp; omega
  have s1 : w.heap.size + 1 < W0.heap.size := by rw [← hW0]; simp
  obtain ⟨f0, c0⟩ := pf0 p0
  have g0 : decide (0 ≤ q.d) = false := decide_eq_false (by omega)
  clear p0
  go_enter Tryz.func26, Tryz.ntmps26
  go_wp2_with fail
  try rw [hW0]
  clear hW0
  refine wp_region_ext (by kernel_rfl) (by kernel_rfl) ?_
  repeat (go_big_quiet_step (fail))
  refine wpQuiet_nil ?_
  intro w4 hw4
  have b4 := ext_to hw4
  clear hw4
  go_wp2
  go_ret
  exact ⟨by rfl, below_up z0 (Nat.le_of_lt s0) b4⟩

set_option maxHeartbeats 4000000 in
theorem has_big (q : D.Px) (x : D.Ky) (w : World) (h0 : 0 ≤ q.d) (h5 : 5 < q.d) : Calls Tryz.prog 26 #[.agg (pS.v q), .agg (kS.v x)] w fun e w' => e = .returned (.bool false) ∧ Below w.heap.size w w' := by
  obtain ⟨W0, hW0⟩ : ∃ W, (w.alloc (.cells (pS.v q) 58)).alloc (.cells (kS.v x) 33) = W := ⟨_, rfl⟩
  have p0 : pS.rd W0 ⟨w.heap.size, 0, none⟩ = some q := by rw [← hW0]; exact Shp.rd_on (Shp.rd_new (S := pS) w _ _ q rfl) (below_alloc_ _ _)
  have f1 : kS.rd W0 ⟨w.heap.size + 1, 0, none⟩ = some x := by rw [← hW0]; exact Shp.rd_new _ _ _ _ (by simp)
  have z0 : Below w.heap.size w W0 := by rw [← hW0]; exact (below_alloc_ _ _).alloc (by simp) _
  have s0 : w.heap.size < W0.heap.size := by rw [← hW0]; simp; omega
  have s1 : w.heap.size + 1 < W0.heap.size := by rw [← hW0]; simp
  obtain ⟨f0, c0⟩ := pf0 p0
  have g0 : decide (0 ≤ q.d) = true := decide_eq_true h0
  have g5 : decide (q.d ≤ 5) = false := decide_eq_false (by omega)
  clear p0
  go_enter Tryz.func26, Tryz.ntmps26
  go_wp2_with fail
  try rw [hW0]
  clear hW0
  refine wp_region_ext (by kernel_rfl) (by kernel_rfl) ?_
  repeat (go_big_quiet_step (fail))
  refine wpQuiet_nil ?_
  intro w4 hw4
  have b4 := ext_to hw4
  clear hw4
  go_wp2
  go_ret
  exact ⟨by rfl, below_up z0 (Nat.le_of_lt s0) b4⟩

theorem has_any (q : D.Px) (x : D.Ky) (w : World) : Calls Tryz.prog 26 #[.agg (pS.v q), .agg (kS.v x)] w fun e w' => e = .returned (.bool (D.has q.x q.d x)) ∧ Below w.heap.size w w' := by
  unfold D.has
  by_cases h0 : 0 ≤ q.d
  · by_cases h5 : q.d ≤ 5
    · have := has_in q x w h0 h5
      rw [kS_sm] at this
      rw [show decide (0 ≤ q.d ∧ q.d ≤ 5 ∧ D.upto q.x q.d = D.upto x q.d) = decide (D.upto q.x q.d = D.upto x q.d) by simp [h0, h5]]
      exact this
    · rw [decide_eq_false (by omega)]; exact has_big q x w h0 (by omega)
  · rw [decide_eq_false (by omega)]; exact has_neg q x w (by omega)
end Go.Proofs.YtjblepjkejihcaaGreatDoor
set_option linter.unusedVariables false
set_option linter.unusedSimpArgs false
set_option maxRecDepth 100000
namespace Go.Proofs.YtjblepjkejihcaaGreatDoor
open Go.RowKit
attribute [local go_sem ↓] Go.wp_at_zero Go.wp_at_succ ld_k lv_k st_k eq_k ne_k bd_k ld_b lv_b st_b eq_b ne_b bd_25 ld_r lv_r st_rk eq_rk ne_rk bd_r ld_p lv_p st_px bd_p Nm.ld_a Nm.ld_n Nm.st_a Nm.st_n Nm.eq_a Nm.eq_n Nm.ne_a Nm.ne_n Nm.lv_a Nm.lv_n ld_a ld_n st_a st_n eq_a eq_n ne_a ne_n lv_a lv_n
attribute [local go_sem] run_ldk run_lvk run_stk run_eqk run_nek run_bdk_z run_ldb run_lvb run_stb run_eqb run_neb run_ldr run_lvr run_strk run_eqrk run_nerk run_bdr_z run_ldp run_lvp run_stpx Nm.run_ld_a Nm.run_ld_n Nm.run_st_n Nm.run_eq_a Nm.run_eq_n Nm.run_ne_a Nm.run_ne_n Nm.run_lv_a Nm.run_lv_n Nm.rd_new Nm.rd_old Nm.rd_drew Nm.rd_drewN run_ld_a run_ld_n run_sw_a run_sw_n run_eq_a run_eq_n run_ne_a run_ne_n run_lv_a run_lv_n st_z ne_z eq_z rd_new rd_old rd_drew rd_drewN Shp.rd_new Shp.rd_old Shp.rd_drew Shp.rd_drewN Shp.rd_set Shp.tn_new Shp.tn_old Shp.tn_drew Shp.tn_drewN tn_new tn_old tn_drew tn_drewN rd_set setRow_alloc run_stn3 run_stt15

def nmH : Nm.D.Nm := ⟨[104, 101, 108, 108, 111, 0, 0, 0, 0, 0, 0, 0], rfl, by decide⟩
def tg1 : D.Tg := ⟨[100, 101, 0, 0, 0, 0, 0, 65, 84, 0], rfl, by decide⟩
def tg3 : D.Tg := ⟨[102, 114, 0, 0, 0, 0, 0, 0, 0, 0], rfl, by decide⟩
def ky1 : D.Ky := D.mkK 6 0 1 nmH tg1
def ky3 : D.Ky := D.mkK 6 0 1 nmH tg3
theorem ky1_right : D.kright ky1 = true := by decide +kernel
theorem ky3_right : D.kright ky3 = true := by decide +kernel
theorem ky1_text : D.ktx ky1 = [116, 47, 48, 47, 49, 47, 104, 101, 108, 108, 111, 47, 100, 101, 45, 65, 84] := by decide +kernel
theorem ky3_text : D.ktx ky3 = [116, 47, 48, 47, 49, 47, 104, 101, 108, 108, 111, 47, 102, 114] := by decide +kernel
theorem parse1 : D.kparse ⟨#[116, 47, 48, 47, 49, 47, 104, 101, 108, 108, 111, 47, 100, 101, 45, 65, 84]⟩ = (ky1, 0) := by
  have := D.kparse_tx ky1_right
  rw [ky1_text] at this
  exact this
theorem parse3 : D.kparse ⟨#[116, 47, 48, 47, 49, 47, 104, 101, 108, 108, 111, 47, 102, 114]⟩ = (ky3, 0) := by
  have := D.kparse_tx ky3_right
  rw [ky3_text] at this
  exact this
theorem parse2 : D.kparse ⟨#[112, 47, 48, 50]⟩ = (D.zK, 3) := by decide +kernel
theorem has4 : D.has ky1 4 ky3 = true := by decide +kernel
theorem has5 : D.has ky1 5 ky3 = false := by decide +kernel
set_option maxHeartbeats 8000000 in
theorem kknown_any (w : World) (hE : Env w) : Calls Tryz.prog 12 #[] w fun e w' => e = .returned (.bool true) ∧ Below w.heap.size w w' := by
  have C1 := Lib.hid (fun W (hE : Env W) => (show Calls Tryz.prog 21 #[.string ⟨#[116, 47, 48, 47, 49, 47, 104, 101, 108, 108, 111, 47, 100, 101, 45, 65, 84]⟩] W fun e w' => e = .returned (.tuple #[.agg (kS.v ky1), .int .i64 0]) ∧ Below W.heap.size W w' from by have := kparse_any ⟨#[116, 47, 48, 47, 49, 47, 104, 101, 108, 108, 111, 47, 100, 101, 45, 65, 84]⟩ W (by decide) hE; rwa [parse1] at this))
  have C2 := Lib.hid (fun W (hE : Env W) => (show Calls Tryz.prog 21 #[.string ⟨#[112, 47, 48, 50]⟩] W fun e w' => e = .returned (.tuple #[.agg (kS.v D.zK), .int .i64 3]) ∧ Below W.heap.size W w' from by have := kparse_any ⟨#[112, 47, 48, 50]⟩ W (by decide) hE; rwa [parse2] at this))
  have C3 := Lib.hid (fun W (hE : Env W) => (show Calls Tryz.prog 21 #[.string ⟨#[116, 47, 48, 47, 49, 47, 104, 101, 108, 108, 111, 47, 102, 114]⟩] W fun e w' => e = .returned (.tuple #[.agg (kS.v ky3), .int .i64 0]) ∧ Below W.heap.size W w' from by have := kparse_any ⟨#[116, 47, 48, 47, 49, 47, 104, 101, 108, 108, 111, 47, 102, 114]⟩ W (by decide) hE; rwa [parse3] at this))
  have CT := Lib.hid (fun W => (show Calls Tryz.prog 18 #[.agg (kS.v ky1)] W fun e w' => e = .returned (.string ⟨#[116, 47, 48, 47, 49, 47, 104, 101, 108, 108, 111, 47, 100, 101, 45, 65, 84]⟩) ∧ Below W.heap.size W w' from by have := ktext_any ky1 W; rwa [ky1_text] at this))
  have CA := Lib.hid (fun W => (show Calls Tryz.prog 26 #[.agg (pS.v ⟨ky1, 4, by decide⟩), .agg (kS.v ky3)] W fun e w' => e = .returned (.bool true) ∧ Below W.heap.size W w' from by have := has_any ⟨ky1, 4, by decide⟩ ky3 W; rwa [has4] at this))
  have CB := Lib.hid (fun W => (show Calls Tryz.prog 26 #[.agg (pS.v ⟨ky1, 5, by decide⟩), .agg (kS.v ky3)] W fun e w' => e = .returned (.bool false) ∧ Below W.heap.size W w' from by have := has_any ⟨ky1, 5, by decide⟩ ky3 W; rwa [has5] at this))
  have hb4 := fun W => run_bdp W ky1 4 (by decide)
  have hb5 := fun W => run_bdp W ky1 5 (by decide)
  obtain ⟨a, ha⟩ : ∃ a, ky1 = a := ⟨_, rfl⟩
  obtain ⟨b, hb⟩ : ∃ b, ky3 = b := ⟨_, rfl⟩
  simp only [ha, hb] at C1 C3 CT CA CB hb4 hb5
  clear ha hb
  go_enter Tryz.func12, Tryz.ntmps12
  go_wp2_with (first
    | (go_at_call 21; (with_reducible refine (C1.out _ hE).mono ?_); rintro e w1 ⟨rfl, b1⟩; have r1 := Shp.rd_new (S := kS) w1 _ 33 a rfl; have z1 := b1.alloc b1.size (.cells (kS.v a) 33); have E1 := hE.on z1; have s1 : w1.heap.size < (w1.alloc (.cells (kS.v a) 33)).heap.size := (by simp))
    | (go_at_call 21; (with_reducible refine (C2.out _ E1).mono ?_); rintro e w2 ⟨rfl, b2⟩; have r2 := Shp.rd_on (Shp.rd_on r1 b2) (below_alloc_ w2 (.cells (kS.v D.zK) 33)); have z2 := (below_up z1 z1.size b2).alloc (below_up z1 z1.size b2).size (.cells (kS.v D.zK) 33); have E2 := hE.on z2)
    | (go_at_call 21; (with_reducible refine (C3.out _ E2).mono ?_); rintro e w3 ⟨rfl, b3⟩; have r3 := Shp.rd_on (Shp.rd_on r2 b3) (below_alloc_ w3 (.cells (kS.v b) 33)); have q3 := Shp.rd_new (S := kS) w3 _ 33 b rfl; have z3 := (below_up z2 z2.size b3).alloc (below_up z2 z2.size b3).size (.cells (kS.v b) 33))
    | (go_at_call 18; (with_reducible refine (CT.out _).mono ?_); rintro e w4 ⟨rfl, b4⟩; have r4 := Shp.rd_on r3 b4; have q4 := Shp.rd_on q3 b4; have z4 := below_up z3 z3.size b4)
    | (go_at_call 26; (with_reducible refine (CA.out _).mono ?_); rintro e w5 ⟨rfl, b5⟩; have r5 := Shp.rd_on r4 b5; have q5 := Shp.rd_on q4 b5; have z5 := below_up z4 z4.size b5)
    | (go_at_call 26; (with_reducible refine (CB.out _).mono ?_); rintro e w6 ⟨rfl, b6⟩; have z6 := below_up z5 z5.size b6))
  go_ret
  exact ⟨by rfl, z6⟩
end Go.Proofs.YtjblepjkejihcaaGreatDoor
