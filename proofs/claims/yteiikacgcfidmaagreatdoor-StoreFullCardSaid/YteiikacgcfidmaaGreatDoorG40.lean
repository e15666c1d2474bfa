/-
  The next part of a text: the closure of spelled; the parts' variable.
  The key of a text's parts: spelled.
  A key's text.
-/
import Derived.Test.YteiikacgcfidmaaGreatDoorG04
import Derived.Test.YteiikacgcfidmaaGreatDoorG15
import Derived.Test.YteiikacgcfidmaaGreatDoorG39
import Derived.Test.YteiikacgcfidmaaGreatDoorG14
import Derived.Deep.Light
import Derived.Sort.Grow
import Derived.Test.YteiikacgcfidmaaGreatDoorG10
import Derived.Test.YteiikacgcfidmaaGreatDoorG11
import Derived.Test.YteiikacgcfidmaaGreatDoorG13
import Derived.Test.YteiikacgcfidmaaGreatDoorG12
set_option linter.unusedVariables false
set_option linter.unusedSimpArgs false
set_option maxRecDepth 100000
namespace Go.Proofs.YteiikacgcfidmaaGreatDoor
open Go.RowKit
attribute [local go_sem ↓] Go.wp_at_zero Go.wp_at_succ

/-- The parts that are left, in their variable. -/
structure PV (g : Nat) (w : World) (q : List ByteArray) : Prop where
  v : ∃ (A : Option Addr) (c : Nat), q.length ≤ c ∧ Blk w g 106 #[.slice A q.length c] ∧ Row w A q.length (q.map Value.string) ∧ ∀ ad, A = some ad → ad.block ≠ g
/-- Of what was there only one block may have turned. -/
structure Far (g : Nat) (w w' : World) : Prop where
  os : w'.os = w.os
  tape : w'.tape = w.tape
  output : w'.output = w.output
  size : w.heap.size ≤ w'.heap.size
  block : ∀ k, k < w.heap.size → k ≠ g → w'.heap[k]? = w.heap[k]?
theorem Far.refl (g : Nat) (w : World) : Far g w w := ⟨rfl, rfl, rfl, Nat.le_refl _, fun _ _ _ => rfl⟩
theorem Far.trans {g : Nat} {a b c : World} (h : Far g a b) (h' : Far g b c) : Far g a c := ⟨h'.os.trans h.os, h'.tape.trans h.tape, h'.output.trans h.output, Nat.le_trans h.size h'.size, fun k hk hg => (h'.block k (Nat.lt_of_lt_of_le hk h.size) hg).trans (h.block k hk hg)⟩
theorem Far.of {g : Nat} {w w' : World} (h : Below w.heap.size w w') : Far g w w' := ⟨h.os, h.tape, h.output, h.size, fun k hk _ => h.block k hk⟩
theorem Far.on {g : Nat} {w w' w'' : World} (h : Far g w w') (hb : Below w'.heap.size w' w'') : Far g w w'' := h.trans (.of hb)
theorem Far.below {g B : Nat} {w0 w w' : World} (h : Far g w w') (hb : Below B w0 w) (hg : B ≤ g) (hs : B ≤ w.heap.size) : Below B w0 w' :=
  ⟨h.os.trans hb.os, h.tape.trans hb.tape, h.output.trans hb.output, Nat.le_trans hb.size h.size, fun k hk => (h.block k (Nat.lt_of_lt_of_le hk hs) (by omega)).trans (hb.block k hk)⟩
theorem Far.blk {g k : Nat} {w w' : World} {t : TypeId} {cs : Array Value} (h : Far g w w') (hb : Blk w k t cs) (hk : k ≠ g) : Blk w' k t cs := ⟨(h.block k hb.lt hk).trans hb.out⟩
theorem Far.cell {g : Nat} {w w' : World} {a : Addr} {v : Value} (h : Far g w w') (hc : w.cell? a = some v) (hk : a.block ≠ g) : w'.cell? a = some v := (World.cell?_of_block (h.block _ (World.block_lt_of_cell? w _ hc) hk)).trans hc
theorem PV.on {g : Nat} {w w' : World} {q : List ByteArray} (h : PV g w q) (hb : Below w.heap.size w w') : PV g w' q := by
  obtain ⟨A, c, h1, h2, h3, h4⟩ := h.v
  exact ⟨A, c, h1, h2.on hb, h3.on hb, h4⟩
theorem far_set (w : World) (g i : Nat) (v : Value) : Far g w (w.setCell ⟨g, i, none⟩ v) := ⟨rfl, rfl, rfl, by simp [World.setCell], fun k _ hk => Below.heap_setCell w _ v k hk⟩
set_option maxHeartbeats 2000000 in
theorem next_any (g : Nat) (u : Bool) (q : List ByteArray) (w : World) (h : PV g w q) :
    Calls Tryz.prog 68 #[.bool u, .pointer (some ⟨g, 0, none⟩)] w fun e w' => e = .returned (.string (D.nx u q).1) ∧ PV g w' (D.nx u q).2 ∧ Far g w w' := by
  obtain ⟨A, c, h1, h2, h3, h4⟩ := h.v
  have hc := h2.c 0
  have hf := h2.f 0
  simp at hc
  cases u with
  | false =>
    have HN : Kept (PV g w q) := ⟨h⟩
    clear h1 h2 h3 h4 h
    go_enter Tryz.func68, Tryz.ntmps68
    go_wp2
    go_ret
    exact ⟨rfl, HN.out, Far.refl _ _⟩
  | true =>
    cases q with
    | nil =>
      have HN : Kept (PV g w []) := ⟨h⟩
      have hl : (([] : List ByteArray).length : Int) = 0 := rfl
      simp only [List.length_nil] at hc
      clear h1 h2 h3 h4 h
      go_enter Tryz.func68, Tryz.ntmps68
      go_wp2
      go_ret
      exact ⟨rfl, HN.out, Far.refl _ _⟩
    | cons x r =>
      obtain ⟨d, rfl⟩ : ∃ d, c = d + 1 := ⟨c - 1, by simp at h1; omega⟩
      obtain ⟨ad, rfl, hx⟩ := h3.cell (k := 0) (u := .string x) rfl
      rw [add_zero_] at hx
      obtain ⟨A1, e1, e2, e3⟩ := from1_s (some ad) r.length d (by simpa using h1)
      have hr1 := e2 w (.string x) (r.map Value.string) h3
      have hA1 := e3 g h4
      have hb := h2.put 0 (.slice A1 r.length d)
      have hN : PV g (w.setCell ⟨g, 0, none⟩ (.slice A1 r.length d)) r := ⟨A1, d, by simpa using h1, by simpa using hb, hr1.keep (by simp [World.setCell]) (fun a e => Below.heap_setCell _ _ _ _ (hA1 a e)), hA1⟩
      have HN : Kept (PV g (w.setCell ⟨g, 0, none⟩ (.slice A1 r.length d)) r) := ⟨hN⟩
      have hgt : ¬ ((r.length : Int) + 1 = 0) := by omega
      simp only [List.length_cons] at hc
      have hlt : (0 : Int) < (r.length : Int) + 1 := by omega
      clear h1 h2 h3 h4 h hb hN e2 e3 hr1 hA1
      go_enter Tryz.func68, Tryz.ntmps68
      go_wp2
      go_ret
      exact ⟨rfl, HN.out, far_set _ _ _ _⟩
theorem nparse_any (s : ByteArray) (w : World) : Calls Tryz.prog 70 #[.string s] w fun e w' => ∃ n, e = .returned (.tuple #[.agg (Nm.nc (D.nmP s)), .int .i64 n]) ∧ Below w.heap.size w w' := by
  unfold D.nmP
  cases h : Nm.D.isB (D.ns s) with
  | true => exact (Nm.parse_yes s w h).mono fun e w' ⟨he, hb⟩ => ⟨0, he, hb⟩
  | false => exact (Nm.parse_no s w h).mono fun e w' ⟨he, hb⟩ => ⟨15, he, hb⟩
theorem tparse_any (s : ByteArray) (w : World) (hs : s.size ≤ 100) : Calls Tryz.prog 71 #[.string s] w fun e w' => ∃ n, e = .returned (.tuple #[.agg (nc (D.tgP s)), .int .i64 n]) ∧ Below w.heap.size w w' := by
  have e1 : D.tgP s = D.tb ((D.parse (D.ns s)).getD D.rt) := by
    unfold D.tgP
    cases D.parse (D.ns s) with
    | none => rfl
    | some p => rfl
  rw [e1]
  exact (tag_parse s w hs).mono fun e w' ⟨he, hb⟩ => ⟨_, he, hb⟩
end Go.Proofs.YteiikacgcfidmaaGreatDoor
set_option linter.unusedVariables false
set_option linter.unusedSimpArgs false
set_option maxRecDepth 100000
namespace Go.Proofs.YteiikacgcfidmaaGreatDoor
open Go.RowKit
attribute [local go_sem ↓] Go.wp_at_zero Go.wp_at_succ ld_k lv_k st_k eq_k ne_k bd_k ld_b lv_b st_b eq_b ne_b bd_25 ld_r lv_r st_rk eq_rk ne_rk bd_r ld_p lv_p st_px bd_p Nm.ld_a Nm.ld_n Nm.st_a Nm.st_n Nm.eq_a Nm.eq_n Nm.ne_a Nm.ne_n Nm.lv_a Nm.lv_n ld_a ld_n st_a st_n eq_a eq_n ne_a ne_n lv_a lv_n
attribute [local go_sem] run_ldk run_lvk run_stk run_eqk run_nek run_bdk_z run_ldb run_lvb run_stb run_eqb run_neb run_ldr run_lvr run_strk run_eqrk run_nerk run_bdr_z run_ldp run_lvp run_stpx Nm.run_ld_a Nm.run_ld_n Nm.run_st_n Nm.run_eq_a Nm.run_eq_n Nm.run_ne_a Nm.run_ne_n Nm.run_lv_a Nm.run_lv_n Nm.rd_new Nm.rd_old Nm.rd_drew Nm.rd_drewN run_ld_a run_ld_n run_sw_a run_sw_n run_eq_a run_eq_n run_ne_a run_ne_n run_lv_a run_lv_n st_z ne_z eq_z rd_new rd_old rd_drew rd_drewN Shp.rd_new Shp.rd_old Shp.rd_drew Shp.rd_drewN Shp.rd_set Shp.tn_new Shp.tn_old Shp.tn_drew Shp.tn_drewN tn_new tn_old tn_drew tn_drewN rd_set setRow_alloc run_stn3 run_stt15

/-- Every part is short. -/
structure Shrt (q : List ByteArray) : Prop where
  all : ∀ x ∈ q, x.size ≤ 100
theorem nx_short {u : Bool} {q : List ByteArray} (h : Shrt q) : (D.nx u q).1.size ≤ 100 ∧ Shrt (D.nx u q).2 := by
  cases u with
  | false => exact ⟨Nat.zero_le _, h⟩
  | true => cases q with
    | nil => exact ⟨Nat.zero_le _, h⟩
    | cons x r => exact ⟨h.all x (by simp), ⟨fun y hy => h.all y (List.mem_cons_of_mem _ hy)⟩⟩
theorem Far.env {g : Nat} {w w' : World} (h : Far g w w') (hE : Env w) (h1 : 0 ≠ g) (h2 : 3 ≠ g) (h3 : 4 ≠ g) : Env w' := by
  obtain ⟨⟨m, c1⟩, ⟨v, c2, c3⟩, ⟨u, c4, c5⟩⟩ := hE
  exact ⟨⟨m, h.cell c1 h1⟩, ⟨v, h.cell c2 h2, c3⟩, ⟨u, h.cell c4 h3, c5⟩⟩
theorem Env.ne {w : World} (hE : Env w) {g : Nat} (hg : w.heap.size ≤ g) : 0 ≠ g ∧ 3 ≠ g ∧ 4 ≠ g := by
  obtain ⟨⟨m, c1⟩, ⟨v, c2, c3⟩, ⟨u, c4, c5⟩⟩ := hE
  have a1 := World.block_lt_of_cell? w _ c1
  have a2 := World.block_lt_of_cell? w _ c2
  have a3 := World.block_lt_of_cell? w _ c4
  simp only at a1 a2 a3
  refine ⟨?_, ?_, ?_⟩ <;> omega
/-- How far spelled has come. -/
structure Sp (w0 w : World) (U : Nat) (k : Int) (q : List ByteArray) : Prop where
  pv : PV w0.heap.size w q
  tk : Shp.tn 25 w (w0.heap.size + 1) = true
  us : Blk w U 140 (usev k)
  un : U ≠ w0.heap.size
  bel : Below w0.heap.size w0 w
  env : Env w
  sh : Shrt q
theorem Sp.on {w0 w w' : World} {U : Nat} {k : Int} {q : List ByteArray} (h : Sp w0 w U k q) (hb : Below w.heap.size w w') : Sp w0 w' U k q :=
  ⟨h.pv.on hb, Shp.tn_on h.tk hb, h.us.on hb, h.un, below_up h.bel h.bel.size hb, h.env.on hb, h.sh⟩
theorem Sp.alloc {w0 w : World} {U : Nat} {k : Int} {q : List ByteArray} (h : Sp w0 w U k q) (o : Obj) : Sp w0 (w.alloc o) U k q := h.on (below_alloc_ w o)
theorem Sp.next {w0 w w' : World} {U : Nat} {k : Int} {q : List ByteArray} (h : Sp w0 w U k q) (hE : Env w0) {u : Bool} (hp : PV w0.heap.size w' (D.nx u q).2) (hf : Far w0.heap.size w w') : Sp w0 w' U k (D.nx u q).2 := by
  obtain ⟨n1, n2, n3⟩ := hE.ne (Nat.le_refl w0.heap.size)
  exact ⟨hp, (Shp.tn_to (hf.block _ (Shp.tn_lt h.tk) (by omega))).trans h.tk, hf.blk h.us h.un, h.un, hf.below h.bel (Nat.le_refl _) h.bel.size, hf.env h.env n1 n2 n3, (nx_short h.sh).2⟩
theorem Sp.u {w0 w : World} {U : Nat} {k : Int} {q : List ByteArray} (h : Sp w0 w U k q) : w.cell? ⟨U, 0, none⟩ = some (.int .i64 (D.ats k : Int)) ∧ w.cell? ⟨U, 1, none⟩ = some (.bool (D.nmd k)) ∧ w.cell? ⟨U, 2, none⟩ = some (.bool (D.tgd k)) := ⟨(h.us.c 0).trans rfl, (h.us.c 1).trans rfl, (h.us.c 2).trans rfl⟩
theorem Sp.drew {w0 w : World} {U : Nat} {k : Int} {q : List ByteArray} (h : Sp w0 w U k q) : Sp w0 w.drew U k q := h.on ((Below.refl _ _).drew)
theorem gt_int (n : Nat) : decide ((0 : Int) < (n : Int)) = decide (0 < n) := by rw [decide_eq_decide]; omega

set_option maxHeartbeats 8000000 in
theorem spelled_key (letter : ByteArray) (A : Option Addr) (c : Nat) (q : List ByteArray) (w : World) (hq : Shrt q) (hc : q.length ≤ c) (hA : ∀ ad, A = some ad → ad.block < w.heap.size) (hr : Row w A q.length (q.map Value.string)) (hE : Env w) :
    Calls Tryz.prog 44 #[.string letter, .slice A q.length c] w fun e w' => e = .returned (.tuple #[.agg (kS.v (D.spld letter q).1), .int .i64 (D.spld letter q).2]) ∧ Below w.heap.size w w' := by
  have HS : Kept (D.spld letter q = D.kof (D.knd letter) (D.num (D.nx true q).1) (D.num (D.nx (decide (0 < D.ats (D.knd letter))) (D.nx true q).2).1) (D.nmP (D.nx (D.nmd (D.knd letter)) (D.nx (decide (0 < D.ats (D.knd letter))) (D.nx true q).2).2).1) (D.tgP (D.nx (D.tgd (D.knd letter)) (D.nx (D.nmd (D.knd letter)) (D.nx (decide (0 < D.ats (D.knd letter))) (D.nx true q).2).2).2).1)) := ⟨rfl⟩
  obtain ⟨j, hj⟩ : ∃ j, Lib.index D.letS letter.data.toList = j := ⟨_, rfl⟩
  have j0 : -1 ≤ j := by rw [← hj]; exact Lib.index_ge _ _
  have j6 : j ≤ 6 := by rw [← hj]; exact Lib.index_le _ _
  have hk : D.knd letter = j + 1 := by unfold D.knd; rw [hj]
  rw [hk] at HS
  obtain ⟨W0, hW0⟩ : ∃ W, (w.alloc (.cells #[.slice A q.length c] 106)).alloc (.cells z25 39) = W := ⟨_, rfl⟩
  have e0 : W0.heap.size = w.heap.size + 2 := by rw [← hW0]; simp
  have z0 : Below w.heap.size w W0 := by rw [← hW0]; exact (below_alloc_ _ _).alloc (by simp) _
  have pv : PV w.heap.size W0 q := by
    rw [← hW0]
    exact ⟨A, c, hc, (Blk.new w _ _).alloc _, (hr.on (below_alloc_ _ _)).on (below_alloc_ _ _), fun ad e => Nat.ne_of_lt (hA ad e)⟩
  have tk : Shp.tn 25 W0 (w.heap.size + 1) = true := by rw [← hW0]; exact Shp.tn_new _ _ _ _ _ (by simp) rfl
  have E0 : Env W0 := hE.on z0
  unfold z25 at hW0
  have CX := Lib.hid (show Calls Tryz.prog 66 #[.string ⟨#[112, 103, 108, 98, 115, 116]⟩, .string letter] W0 fun e w' => e = .returned (.int .i64 j) ∧ W0 = w' from by
    have := index_any ⟨#[112, 103, 108, 98, 115, 116]⟩ letter W0 (by decide) E0
    rw [show (⟨#[112, 103, 108, 98, 115, 116]⟩ : ByteArray).data.toList = D.letS from rfl, hj] at this
    exact this)
  have CU := Lib.hid (fun w => (show Calls Tryz.prog 67 #[.int .i64 (j + 1)] w fun e w' => e = .returned (.tuple #[.agg #[.int .i64 (D.ats (j + 1) : Int), .bool (D.nmd (j + 1)), .bool (D.tgd (j + 1))], .bool (decide (1 ≤ j + 1 ∧ j + 1 ≤ 6))]) ∧ Below w.heap.size w w' from useOf_any (j + 1) w))
  clear hk hr hA hc
  go_enter Tryz.func44, Tryz.ntmps44
  go_wp2_with fail
  try rw [hW0]
  clear hW0
  go_wp2_with (first
    | (go_at_call 66; (with_reducible refine CX.out.mono ?_); rintro e v0 ⟨rfl, rfl⟩)
    | (go_at_call 67; (with_reducible refine (CU.out _).mono ?_); rintro e w1 ⟨rfl, b1⟩))
  obtain ⟨W1, hW1⟩ : ∃ W, w1.alloc (.cells (usev (j + 1)) 140) = W := ⟨_, rfl⟩
  have s1 : Sp w W1 w1.heap.size (j + 1) q := by
    have b2 : Below W0.heap.size W0 W1 := by rw [← hW1]; exact b1.alloc b1.size _
    have UB := Blk.new w1 140 (usev (j + 1))
    rw [hW1] at UB
    exact ⟨pv.on b2, Shp.tn_on tk b2, UB, by have := b1.size; omega, below_up z0 z0.size b2, E0.on b2, hq⟩
  unfold usev at hW1
  try rw [hW1]
  obtain ⟨U, hU⟩ : ∃ U, w1.heap.size = U := ⟨_, rfl⟩
  rw [hU] at s1
  rw [hU]
  clear hW1 hU b1 pv tk E0 z0 hq e0
  obtain ⟨kk, hkk⟩ : ∃ kk, j + 1 = kk := ⟨_, rfl⟩
  rw [hkk] at s1 HS
  have g0 := s1.drew
  refine wp_region_noPanic ?_
  refine wp_region_held_drew (S := fun V => ∃ q', Sp w V U kk q') (by kernel_rfl) ⟨q, g0⟩ (fun _ => ?_)
  refine takeS 0 (some 25) ?va0 (by kernel_rfl) (by kernel_rfl) (by kernel_rfl) (by kernel_rfl) (fun _ _ _ h => h) (by rfl) ?hya0 ⟨q, g0⟩ ?resta0
  case hya0 => (intro o ho W hW; simp only [List.getElem?_toArray, List.getElem?_cons_succ, List.getElem?_cons_zero, Option.some.injEq] at ho; subst ho; (try dsimp only at hW); obtain ⟨q', hS⟩ := hW; obtain ⟨u0, u1, u2⟩ := hS.u; go_simp; try rfl)
  try simp only [Act.put, List.setIfInBounds_toArray, List.set_cons_zero, List.set_cons_succ]
  refine takeS 3 (some 28) ?va3 (by kernel_rfl) (by kernel_rfl) (by kernel_rfl) (by kernel_rfl) (fun _ _ _ h => h) (by rfl) ?hya3 ⟨q, g0⟩ ?resta3
  case hya3 => (intro o ho W hW; simp only [List.getElem?_toArray, List.getElem?_cons_succ, List.getElem?_cons_zero, Option.some.injEq] at ho; subst ho; (try dsimp only at hW); obtain ⟨q', hS⟩ := hW; obtain ⟨u0, u1, u2⟩ := hS.u; go_simp; try rfl)
  try simp only [Act.put, List.setIfInBounds_toArray, List.set_cons_zero, List.set_cons_succ]
  refine takeS 4 (some 29) ?va4 (by kernel_rfl) (by kernel_rfl) (by kernel_rfl) (by kernel_rfl) (fun _ _ _ h => h) (by rfl) ?hya4 ⟨q, g0⟩ ?resta4
  case hya4 => (intro o ho W hW; simp only [List.getElem?_toArray, List.getElem?_cons_succ, List.getElem?_cons_zero, Option.some.injEq] at ho; subst ho; (try dsimp only at hW); obtain ⟨q', hS⟩ := hW; obtain ⟨u0, u1, u2⟩ := hS.u; go_simp; try rfl)
  try simp only [Act.put, List.setIfInBounds_toArray, List.set_cons_zero, List.set_cons_succ]
  refine takeS 5 (some 30) ?va5 (by kernel_rfl) (by kernel_rfl) (by kernel_rfl) (by kernel_rfl) (fun _ _ _ h => h) (by rfl) ?hya5 ⟨q, g0⟩ ?resta5
  case hya5 => (intro o ho W hW; simp only [List.getElem?_toArray, List.getElem?_cons_succ, List.getElem?_cons_zero, Option.some.injEq] at ho; subst ho; (try dsimp only at hW); obtain ⟨q', hS⟩ := hW; obtain ⟨u0, u1, u2⟩ := hS.u; go_simp; try rfl)
  try simp only [Act.put, List.setIfInBounds_toArray, List.set_cons_zero, List.set_cons_succ]
  refine takeS 6 (some 31) (.bool (decide (0 < D.ats kk))) (by kernel_rfl) (by kernel_rfl) (by kernel_rfl) (by kernel_rfl) (fun _ _ _ h => h) (by rfl) ?hya6 ⟨q, g0⟩ ?resta6
  case hya6 => (intro o ho W hW; simp only [List.getElem?_toArray, List.getElem?_cons_succ, List.getElem?_cons_zero, Option.some.injEq] at ho; subst ho; (try dsimp only at hW); obtain ⟨q', hS⟩ := hW; obtain ⟨u0, u1, u2⟩ := hS.u; go_simp; (first | done | rfl | rw [gt_int]))
  try simp only [Act.put, List.setIfInBounds_toArray, List.set_cons_zero, List.set_cons_succ]
  refine nextS 1 (by kernel_rfl) (by rfl) (fun o ho K hK => ?_)
  simp only [List.getElem?_toArray, List.getElem?_cons_succ, List.getElem?_cons_zero, Option.some.injEq] at ho; subst ho
  go_simp
  (go_at_call 68; (with_reducible refine (next_any w.heap.size true q _ g0.pv).mono ?_); rintro e v1 ⟨rfl, pv1, fv1⟩)
  have gv1 := g0.next hE pv1 fv1
  refine hK.out _ _ ⟨_, gv1⟩ (fun _ => ?_)
  clear hK K
  try simp only [Act.put, List.setIfInBounds_toArray, List.set_cons_zero, List.set_cons_succ]
  refine nextS 2 (by kernel_rfl) (by rfl) (fun o ho K hK => ?_)
  simp only [List.getElem?_toArray, List.getElem?_cons_succ, List.getElem?_cons_zero, Option.some.injEq] at ho; subst ho
  go_simp
  (go_at_call 69; (with_reducible refine (number_any (D.nx true q).1 _ (nx_short s1.sh).1 gv1.env).mono ?_); rintro e v2 ⟨rfl, bv2⟩)
  have gv2 := gv1.on bv2
  refine hK.out _ _ ⟨_, gv2⟩ (fun _ => ?_)
  clear hK K
  try simp only [Act.put, List.setIfInBounds_toArray, List.set_cons_zero, List.set_cons_succ]
  refine nextS 7 (by kernel_rfl) (by rfl) (fun o ho K hK => ?_)
  simp only [List.getElem?_toArray, List.getElem?_cons_succ, List.getElem?_cons_zero, Option.some.injEq] at ho; subst ho
  go_simp
  (go_at_call 68; (with_reducible refine (next_any w.heap.size (decide (0 < D.ats kk)) (D.nx true q).2 _ gv2.pv).mono ?_); rintro e v3 ⟨rfl, pv3, fv3⟩)
  have gv3 := gv2.next hE pv3 fv3
  refine hK.out _ _ ⟨_, gv3⟩ (fun _ => ?_)
  clear hK K
  try simp only [Act.put, List.setIfInBounds_toArray, List.set_cons_zero, List.set_cons_succ]
  refine nextS 8 (by kernel_rfl) (by rfl) (fun o ho K hK => ?_)
  simp only [List.getElem?_toArray, List.getElem?_cons_succ, List.getElem?_cons_zero, Option.some.injEq] at ho; subst ho
  go_simp
  (go_at_call 69; (with_reducible refine (number_any (D.nx (decide (0 < D.ats kk)) (D.nx true q).2).1 _ (nx_short (nx_short s1.sh).2).1 gv3.env).mono ?_); rintro e v4 ⟨rfl, bv4⟩)
  have gv4 := gv3.on bv4
  refine hK.out _ _ ⟨_, gv4⟩ (fun _ => ?_)
  clear hK K
  try simp only [Act.put, List.setIfInBounds_toArray, List.set_cons_zero, List.set_cons_succ]
  refine takeS 9 (some 10) ?vb9 (by kernel_rfl) (by kernel_rfl) (by kernel_rfl) (by kernel_rfl) (fun _ _ _ h => h) (by rfl) ?hyb9 ⟨_, gv4⟩ ?restb9
  case hyb9 => (intro o ho W hW; simp only [List.getElem?_toArray, List.getElem?_cons_succ, List.getElem?_cons_zero, Option.some.injEq] at ho; subst ho; (try dsimp only at hW); obtain ⟨q', hS⟩ := hW; obtain ⟨u0, u1, u2⟩ := hS.u; go_simp; try rfl)
  try simp only [Act.put, List.setIfInBounds_toArray, List.set_cons_zero, List.set_cons_succ]
  refine takeS 10 (some 11) ?vc10 (by kernel_rfl) (by kernel_rfl) (by kernel_rfl) (by kernel_rfl) (fun _ _ _ h => h) (by rfl) ?hyc10 ⟨_, gv4⟩ ?restc10
  case hyc10 => (intro o ho W hW; simp only [List.getElem?_toArray, List.getElem?_cons_succ, List.getElem?_cons_zero, Option.some.injEq] at ho; subst ho; (try dsimp only at hW); obtain ⟨q', hS⟩ := hW; obtain ⟨u0, u1, u2⟩ := hS.u; go_simp; try rfl)
  try simp only [Act.put, List.setIfInBounds_toArray, List.set_cons_zero, List.set_cons_succ]
  refine wpAnyH_done (by kernel_rfl) ?_ _
  refine NoPanic.normal ?_
  obtain ⟨u0, u1, u2⟩ := gv4.u
  have cS := gv4.sh
  obtain ⟨q2, hq2⟩ : ∃ q2, (D.nx (decide (0 < D.ats kk)) (D.nx true q).2).2 = q2 := ⟨_, rfl⟩
  rw [hq2] at gv4 cS
  have h3 := nx_short (u := D.nmd kk) cS
  have h4 := nx_short (u := D.tgd kk) h3.2
  have CN := Lib.hid (fun w => nparse_any (D.nx (D.nmd kk) q2).1 w)
  have CT := Lib.hid (fun w => tparse_any (D.nx (D.tgd kk) (D.nx (D.nmd kk) q2).2).1 w h4.1)
  clear gv1 gv2 gv3 pv1 pv3 fv1 fv3 bv2 bv4 g0 s1
  go_wp2_with (first
    | (go_at_call 68; (with_reducible refine (next_any w.heap.size (D.nmd kk) q2 _ gv4.pv).mono ?_); rintro e v5 ⟨rfl, p5, f5⟩; have g5 := gv4.next hE p5 f5)
    | (go_at_call 70; (with_reducible refine (CN.out _).mono ?_); rintro e v6 ⟨n6, rfl, b6⟩; have g6 := g5.on b6; have x6 := Nm.rd_new v6 _ 33 (D.nmP (D.nx (D.nmd kk) q2).1) rfl; have g7 := g6.alloc (.cells (Nm.nc (D.nmP (D.nx (D.nmd kk) q2).1)) 33); obtain ⟨u0, u1, u2⟩ := g7.u)
    | (go_at_call 68; (with_reducible refine (next_any w.heap.size (D.tgd kk) (D.nx (D.nmd kk) q2).2 _ g7.pv).mono ?_); rintro e v8 ⟨rfl, p8, f8⟩; have g8 := g7.next hE p8 f8; have x8 := (Nm.rd_to (f8.block _ (Nm.rd_lt x6) (by have := g6.bel.size; have := Shp.tn_lt g6.tk; show v6.heap.size ≠ w.heap.size; omega))).trans x6)
    | (go_at_call 71; (with_reducible refine (CT.out _).mono ?_); rintro e v9 ⟨n9, rfl, b9⟩; have g9 := g8.on b9; have x9 := Nm.rd_on x8 b9; have g10 := g9.alloc (.cells (nc (D.tgP (D.nx (D.tgd kk) (D.nx (D.nmd kk) q2).2).1)) 37); have y10 := rd_new v9 _ 37 (D.tgP (D.nx (D.tgd kk) (D.nx (D.nmd kk) q2).2).1) rfl; have sx := Nm.rd_lt x9)
    | (go_at_call 72; (with_reducible refine (keyof_any _ _ _ _ _ _).mono ?_); rintro e v11 ⟨rfl, b11⟩; have g11 := g10.on b11; have k11 := g11.tk))

  obtain ⟨y, hy⟩ : ∃ y, D.spld letter q = y := ⟨_, rfl⟩
  rw [hq2] at HS
  have HE := HS.out
  have hset := Shp.rd_set (S := kS) v11 (w.heap.size + 1) (D.spld letter q).1 k11
  have z9 := below_setRow g11.bel (Nat.le_succ _) (kS.v (D.spld letter q).1)
  rw [HE] at hset z9
  rw [HE]
  exact bodyPost_ret (v := .tuple #[.agg (kS.v _), .int .i64 _]) (by rw [results_cell_tmp rfl]; simp [asAddr, Result.andThen, lvk_of hset]) rfl ⟨rfl, z9⟩
end Go.Proofs.YteiikacgcfidmaaGreatDoor
set_option linter.unusedVariables false
set_option linter.unusedSimpArgs false
set_option maxRecDepth 100000
namespace Go.Proofs.YteiikacgcfidmaaGreatDoor
open Go.RowKit
attribute [local go_sem ↓] Go.wp_at_zero Go.wp_at_succ ld_k lv_k st_k eq_k ne_k bd_k ld_b lv_b st_b eq_b ne_b bd_25 ld_r lv_r st_rk eq_rk ne_rk bd_r ld_p lv_p st_px bd_p Nm.ld_a Nm.ld_n Nm.st_a Nm.st_n Nm.eq_a Nm.eq_n Nm.ne_a Nm.ne_n Nm.lv_a Nm.lv_n ld_a ld_n st_a st_n eq_a eq_n ne_a ne_n lv_a lv_n
attribute [local go_sem] run_ldk run_lvk run_stk run_eqk run_nek run_bdk_z run_ldb run_lvb run_stb run_eqb run_neb run_ldr run_lvr run_strk run_eqrk run_nerk run_bdr_z run_ldp run_lvp run_stpx Nm.run_ld_a Nm.run_ld_n Nm.run_st_n Nm.run_eq_a Nm.run_eq_n Nm.run_ne_a Nm.run_ne_n Nm.run_lv_a Nm.run_lv_n Nm.rd_new Nm.rd_old Nm.rd_drew Nm.rd_drewN run_ld_a run_ld_n run_sw_a run_sw_n run_eq_a run_eq_n run_ne_a run_ne_n run_lv_a run_lv_n st_z ne_z eq_z rd_new rd_old rd_drew rd_drewN Shp.rd_new Shp.rd_old Shp.rd_drew Shp.rd_drewN Shp.rd_set Shp.tn_new Shp.tn_old Shp.tn_drew Shp.tn_drewN setRow_alloc run_stn3 run_stt15

theorem sown_two (w : World) (base g : Nat) (a b : ByteArray) (hg : g = w.heap.size) (hb : base ≤ w.heap.size) : SOwn base (w.alloc (.cells #[.string a, .string b] 9)) (some ⟨g, 0, none⟩) 2 2 [a, b] := by
  subst hg
  exact ⟨⟨rfl, .inr ⟨_, 2, #[.string a, .string b], rfl, hb, heap_alloc_new w _, by omega, by decide, rfl, rfl⟩⟩, by simp; omega⟩
theorem dig_len (n : Nat) : (D.dig n).length ≤ 2 := by unfold D.dig; split <;> simp
theorem txt_len' (x : Nm.D.Nm) : (Nm.D.txt x).length ≤ 12 := by
  unfold Nm.D.txt
  split
  · have := Nm.D.hd_le x.l; rw [x.len] at this; exact this
  · simp
theorem tx_len' (x : D.Tg) : (D.tx' x).length ≤ 20 := by
  unfold D.tx'
  split
  · exact spell_len2 x
  · simp
theorem ns_of {l : List Nat} (h : ∀ c ∈ l, c < 256) : D.ns (D.sb l) = l := D.ns_sb h
theorem wrap_small {n m : Nat} (h : n < m) (hm : m ≤ 256 := by decide) : IntKind.i64.wrap (n : Int) = n := by
  simp [IntKind.wrap, IntKind.bits, IntKind.signed]
  omega
/-- What a walk knows of a key that is right. -/
structure KR (x : D.Ky) : Prop where
  p : x.p < 4
  a : x.a < 16
  k : 1 ≤ x.k ∧ x.k ≤ 6
theorem kr_of {x : D.Ky} (h : D.kright x = true) : KR x := by
  simp only [D.kright, decide_eq_true_eq] at h
  obtain ⟨h1, h2, h3, h4, h5⟩ := D.err_ok h.1
  have ha := D.ats_le x.k
  refine ⟨by omega, ?_, by omega⟩
  have e3 : (D.mkI x.k x.p x.a x.n x.t).a = if 0 < D.ats x.k then (x.a : Int).toNat else 0 := by
    rw [D.mkI, D.mkK_a]
    split
    · have := h3 ‹_›; omega
    · omega
  rw [h.2] at e3
  split at e3
  · have := h3 ‹_›; omega
  · omega

set_option maxHeartbeats 1000000 in
theorem ktext_no (x : D.Ky) (w : World) (h : D.kright x = false) : Calls Tryz.prog 45 #[.agg (kS.v x)] w fun e w' => e = .returned (.string ⟨#[]⟩) ∧ Below w.heap.size w w' := by
  have f0 := Shp.rd_new (S := kS) w _ 39 x rfl
  have cR := keyright_any x
  rw [h] at cR
  have CR := Lib.hid cR
  clear cR h
  go_enter Tryz.func45, Tryz.ntmps45
  go_wp2_with (go_at_call 50; (with_reducible refine (CR.out _).mono ?_); rintro e w1 ⟨rfl, b1⟩)
  go_ret
  exact ⟨by rfl, below_up (below_alloc_ _ _) (by simp) b1⟩
set_option maxHeartbeats 8000000 in
theorem ktext_1 (x : D.Ky) (w : World) (h : D.kright x = true) (hk : x.k = 1) : Calls Tryz.prog 45 #[.agg (kS.v x)] w fun e w' => e = .returned (.string (D.sb (D.jn ([D.sb [112], D.sb (D.dig x.p)].map D.ns)))) ∧ Below w.heap.size w w' := by
  have hR := kr_of h
  have l1 : (x.p : Int) < 256 := by have := hR.p; omega
  have l2 : (x.a : Int) < 256 := by have := hR.a; omega
  have hns : (D.jn ([D.sb [112], D.sb (D.dig x.p)].map D.ns)).length ≤ 100 := by
    have g1 := dig_len x.p
    have g2 := dig_len x.a
    have g3 := txt_len' x.n
    have g4 := tx_len' x.t
    have i1 : D.ns (D.sb (D.dig x.p)) = D.dig x.p := ns_of (D.dig_lt (by have := hR.p; omega))
    have i2 : D.ns (D.sb (D.dig x.a)) = D.dig x.a := ns_of (D.dig_lt (by have := hR.a; omega))
    have i3 : D.ns (Nm.ts x.n) = Nm.D.txt x.n := ns_of D.ntx_lt
    have i4 : D.ns (D.sb (D.tx x.t)) = D.tx' x.t := ns_of D.tx_lt
    have i5 : D.ns (D.sb [112]) = [112] := rfl
    simp only [List.map_cons, List.map_nil, i1, i2, i3, i4, i5, D.jn, List.length_append, List.length_cons, List.length_nil]
    omega
  have hwp : IntKind.i64.wrap (x.p : Int) = x.p := wrap_small hR.p
  have f0 := Shp.rd_new (S := kS) w _ 39 x rfl
  have cR := keyright_any x
  rw [h] at cR
  have CR := Lib.hid cR
  have CU := Lib.hid (fun w => (show Calls Tryz.prog 67 #[.int .i64 1] w fun e w' => e = .returned (.tuple #[.agg #[.int .i64 0, .bool false, .bool false], .bool true]) ∧ Below w.heap.size w w' from useOf_any 1 w))
  have CI := Lib.hid (fun w => itoa_any x.p (by have := hR.p; omega) w)
  have CA := Lib.hid (fun w => itoa_any x.a (by have := hR.a; omega) w)
  have CN := Lib.hid (fun w => Nm.text_any x.n w)
  have CT := Lib.hid (fun w => text_any x.t w)
  clear cR h hR
  go_enter Tryz.func45, Tryz.ntmps45
  go_wp2_with (go_at_call 50; (with_reducible refine (CR.out _).mono ?_); rintro e w1 ⟨rfl, b1⟩; have f1 := Shp.rd_on f0 b1; have c1 := (kf0 f1).1; rw [hk] at c1; have y1 : ((1 : Nat) : Int) = 1 := rfl; rw [y1] at c1)
  have z1 : Below w.heap.size w w1 := below_up (below_alloc_ _ _) (by simp) b1
  have s1 : w.heap.size < w1.heap.size := by have := b1.size; simp at this; omega
  clear b1 f0
  go_wp2_with (go_at_call 67; (with_reducible refine (CU.out _).mono ?_); rintro e w2 ⟨rfl, b2⟩)
  obtain ⟨W, hW⟩ : ∃ W, w2.alloc (.cells #[.int .i64 0, .bool false, .bool false] 140) = W := ⟨_, rfl⟩
  have fb : kS.rd W ⟨w.heap.size, 0, none⟩ = some x := by rw [← hW]; exact Shp.rd_on (Shp.rd_on f1 b2) (below_alloc_ _ _)
  have UB := Blk.new w2 140 #[.int .i64 0, .bool false, .bool false]
  rw [hW] at UB
  have zW : Below w.heap.size w W := by rw [← hW]; exact (below_up z1 z1.size b2).alloc (by have := z1.size; have := b2.size; omega) _
  try rw [hW]
  clear hW b2 z1 f1 c1 s1
  obtain ⟨m, hm⟩ : ∃ m, w2.heap.size = m := ⟨_, rfl⟩
  rw [hm] at UB
  rw [hm]
  clear hm
  have zd : Below W.heap.size W W.drew := (Below.refl _ _).drew
  refine wp_region_noPanic ?_
  refine wp_region_held_drew (S := fun V => Below W.heap.size W V) (by kernel_rfl) zd (fun _ => ?_)
  refine takeS 0 (some 16) ?va0 (by kernel_rfl) (by kernel_rfl) (by kernel_rfl) (by kernel_rfl) (fun _ _ _ h => h) (by rfl) ?hya0 zd ?resta0
  case hya0 => (intro o ho W hW; simp only [List.getElem?_toArray, List.getElem?_cons_succ, List.getElem?_cons_zero, Option.some.injEq] at ho; subst ho; (try dsimp only at hW); have ff := Shp.rd_on fb hW; obtain ⟨c0, c1, c2, c3, c4⟩ := kf0 ff; rw [hk] at c0; rw [show ((1 : Nat) : Int) = 1 from rfl] at c0; go_simp; try rfl)
  try simp only [Act.put, List.setIfInBounds_toArray, List.set_cons_zero, List.set_cons_succ]
  refine takeS 1 (some 17) ?va1 (by kernel_rfl) (by kernel_rfl) (by kernel_rfl) (by kernel_rfl) (fun _ _ _ h => h) (by rfl) ?hya1 zd ?resta1
  case hya1 => (intro o ho W hW; simp only [List.getElem?_toArray, List.getElem?_cons_succ, List.getElem?_cons_zero, Option.some.injEq] at ho; subst ho; (try dsimp only at hW); have ff := Shp.rd_on fb hW; obtain ⟨c0, c1, c2, c3, c4⟩ := kf0 ff; rw [hk] at c0; rw [show ((1 : Nat) : Int) = 1 from rfl] at c0; go_simp; try rfl)
  try simp only [Act.put, List.setIfInBounds_toArray, List.set_cons_zero, List.set_cons_succ]
  refine takeS 2 (some 18) (.int .u8 0) (by kernel_rfl) (by kernel_rfl) (by kernel_rfl) (by kernel_rfl) (fun _ _ _ h => h) (by rfl) ?hya2 zd ?resta2
  case hya2 => (intro o ho W hW; simp only [List.getElem?_toArray, List.getElem?_cons_succ, List.getElem?_cons_zero, Option.some.injEq] at ho; subst ho; (try dsimp only at hW); have ff := Shp.rd_on fb hW; obtain ⟨c0, c1, c2, c3, c4⟩ := kf0 ff; rw [hk] at c0; rw [show ((1 : Nat) : Int) = 1 from rfl] at c0; go_simp; (first | done | rfl | (rw [hwp])))
  try simp only [Act.put, List.setIfInBounds_toArray, List.set_cons_zero, List.set_cons_succ]
  refine takeS 3 (some 19) ?va3 (by kernel_rfl) (by kernel_rfl) (by kernel_rfl) (by kernel_rfl) (fun _ _ _ h => h) (by rfl) ?hya3 zd ?resta3
  case hya3 => (intro o ho W hW; simp only [List.getElem?_toArray, List.getElem?_cons_succ, List.getElem?_cons_zero, Option.some.injEq] at ho; subst ho; (try dsimp only at hW); have ff := Shp.rd_on fb hW; obtain ⟨c0, c1, c2, c3, c4⟩ := kf0 ff; rw [hk] at c0; rw [show ((1 : Nat) : Int) = 1 from rfl] at c0; go_simp; try rfl)
  try simp only [Act.put, List.setIfInBounds_toArray, List.set_cons_zero, List.set_cons_succ]
  refine takeS 4 (some 20) ?va4 (by kernel_rfl) (by kernel_rfl) (by kernel_rfl) (by kernel_rfl) (fun _ _ _ h => h) (by rfl) ?hya4 zd ?resta4
  case hya4 => (intro o ho W hW; simp only [List.getElem?_toArray, List.getElem?_cons_succ, List.getElem?_cons_zero, Option.some.injEq] at ho; subst ho; (try dsimp only at hW); have ff := Shp.rd_on fb hW; obtain ⟨c0, c1, c2, c3, c4⟩ := kf0 ff; rw [hk] at c0; rw [show ((1 : Nat) : Int) = 1 from rfl] at c0; go_simp; try rfl)
  try simp only [Act.put, List.setIfInBounds_toArray, List.set_cons_zero, List.set_cons_succ]
  refine takeS 5 (some 21) (.string (D.sb [112])) (by kernel_rfl) (by kernel_rfl) (by kernel_rfl) (by kernel_rfl) (fun _ _ _ h => h) (by rfl) ?hya5 zd ?resta5
  case hya5 => (intro o ho W hW; simp only [List.getElem?_toArray, List.getElem?_cons_succ, List.getElem?_cons_zero, Option.some.injEq] at ho; subst ho; (try dsimp only at hW); have ff := Shp.rd_on fb hW; obtain ⟨c0, c1, c2, c3, c4⟩ := kf0 ff; rw [hk] at c0; rw [show ((1 : Nat) : Int) = 1 from rfl] at c0; go_simp; (first | done | rfl | (rw [hwp])))
  try simp only [Act.put, List.setIfInBounds_toArray, List.set_cons_zero, List.set_cons_succ]
  refine takeS 6 (some 22) ?va6 (by kernel_rfl) (by kernel_rfl) (by kernel_rfl) (by kernel_rfl) (fun _ _ _ h => h) (by rfl) ?hya6 zd ?resta6
  case hya6 => (intro o ho W hW; simp only [List.getElem?_toArray, List.getElem?_cons_succ, List.getElem?_cons_zero, Option.some.injEq] at ho; subst ho; (try dsimp only at hW); have ff := Shp.rd_on fb hW; obtain ⟨c0, c1, c2, c3, c4⟩ := kf0 ff; rw [hk] at c0; rw [show ((1 : Nat) : Int) = 1 from rfl] at c0; go_simp; try rfl)
  try simp only [Act.put, List.setIfInBounds_toArray, List.set_cons_zero, List.set_cons_succ]
  refine takeS 7 (some 23) ?va7 (by kernel_rfl) (by kernel_rfl) (by kernel_rfl) (by kernel_rfl) (fun _ _ _ h => h) (by rfl) ?hya7 zd ?resta7
  case hya7 => (intro o ho W hW; simp only [List.getElem?_toArray, List.getElem?_cons_succ, List.getElem?_cons_zero, Option.some.injEq] at ho; subst ho; (try dsimp only at hW); have ff := Shp.rd_on fb hW; obtain ⟨c0, c1, c2, c3, c4⟩ := kf0 ff; rw [hk] at c0; rw [show ((1 : Nat) : Int) = 1 from rfl] at c0; go_simp; try rfl)
  try simp only [Act.put, List.setIfInBounds_toArray, List.set_cons_zero, List.set_cons_succ]
  refine takeS 8 (some 24) (.int .i64 (x.p : Int)) (by kernel_rfl) (by kernel_rfl) (by kernel_rfl) (by kernel_rfl) (fun _ _ _ h => h) (by rfl) ?hya8 zd ?resta8
  case hya8 => (intro o ho W hW; simp only [List.getElem?_toArray, List.getElem?_cons_succ, List.getElem?_cons_zero, Option.some.injEq] at ho; subst ho; (try dsimp only at hW); have ff := Shp.rd_on fb hW; obtain ⟨c0, c1, c2, c3, c4⟩ := kf0 ff; rw [hk] at c0; rw [show ((1 : Nat) : Int) = 1 from rfl] at c0; go_simp; (first | done | rfl | (rw [hwp])))
  try simp only [Act.put, List.setIfInBounds_toArray, List.set_cons_zero, List.set_cons_succ]
  refine nextS 9 (by kernel_rfl) (by rfl) (fun o ho K hK => ?_)
  simp only [List.getElem?_toArray, List.getElem?_cons_succ, List.getElem?_cons_zero, Option.some.injEq] at ho; subst ho
  go_simp
  (go_at_call 73; (with_reducible refine (CI.out _).mono ?_); rintro e v1 ⟨rfl, rfl⟩)
  refine hK.out _ _ zd (fun _ => ?_)
  clear hK K
  try simp only [Act.put, List.setIfInBounds_toArray, List.set_cons_zero, List.set_cons_succ]
  refine nextS 10 (by kernel_rfl) (by rfl) (fun o ho K hK => ?_)
  simp only [List.getElem?_toArray, List.getElem?_cons_succ, List.getElem?_cons_zero, Option.some.injEq] at ho; subst ho
  go_simp
  refine hK.out _ _ (zd.alloc zd.size _) (fun _ => ?_)
  clear hK K
  try simp only [Act.put, List.setIfInBounds_toArray, List.set_cons_zero, List.set_cons_succ]
  refine takeS 11 (some 5) ?vb11 (by kernel_rfl) (by kernel_rfl) (by kernel_rfl) (by kernel_rfl) (fun _ _ _ h => h) (by rfl) ?hyb11 (zd.alloc zd.size _) ?restb11
  case hyb11 => (intro o ho W hW; simp only [List.getElem?_toArray, List.getElem?_cons_succ, List.getElem?_cons_zero, Option.some.injEq] at ho; subst ho; (try dsimp only at hW); skip; go_simp; try rfl)
  try simp only [Act.put, List.setIfInBounds_toArray, List.set_cons_zero, List.set_cons_succ]
  refine wpAnyH_done (by kernel_rfl) ?_ _
  refine NoPanic.normal ?_
  have ho := sown_two W.drew W.heap.size W.heap.size (D.sb [112]) (D.sb (D.dig x.p)) rfl (Nat.le_refl _)
  have zo := zd.alloc zd.size (.cells #[.string (D.sb [112]), .string (D.sb (D.dig x.p))] 9)
  have eL : D.sb [112] = ⟨#[112]⟩ := rfl
  have bo : ∃ V, V = W.drew.alloc (.cells #[.string (D.sb [112]), .string (D.sb (D.dig x.p))] 9) := ⟨_, rfl⟩
  obtain ⟨V, hV⟩ := bo
  rw [← hV] at ho zo
  have uo := UB.on zo
  have u0 := uo.c 0
  have u1 := uo.c 1
  have u2 := uo.c 2
  simp at u0 u1 u2
  obtain ⟨c0, c1, c2, c3, c4⟩ := kf0 (Shp.rd_on fb zo)
  have hV1 : W.drew.alloc (.cells #[.string ⟨#[112]⟩, .string (D.sb (D.dig x.p))] 9) = V := hV.symm
  have hV2 : (W.alloc (.cells #[.string ⟨#[112]⟩, .string (D.sb (D.dig x.p))] 9)).drew = V := hV.symm
  try rw [← hV]
  try rw [hV1]
  try rw [hV2]
  clear hV
  go_wp2_with fail
  obtain ⟨g, hA, hg, hcell⟩ := ho.at_ (by omega)
  obtain rfl : W.heap.size = g := by injection hA with hA; injection hA
  have cJ := kjoin_any W.heap.size 2 [D.sb [112], D.sb (D.dig x.p)] _ (fun j y hy => hcell j y hy) hg (by simp) (by simp) hns
  go_wp2_with (go_at_call 76; (with_reducible refine Calls.mono cJ ?_); rintro e w9 ⟨rfl, b9⟩)
  go_ret
  exact ⟨rfl, below_up zW zW.size (below_up zo zo.size b9)⟩
set_option maxHeartbeats 8000000 in
theorem ktext_2 (x : D.Ky) (w : World) (h : D.kright x = true) (hk : x.k = 2) : Calls Tryz.prog 45 #[.agg (kS.v x)] w fun e w' => e = .returned (.string (D.sb (D.jn ([D.sb [103], D.sb (D.dig x.p), D.sb (D.dig x.a)].map D.ns)))) ∧ Below w.heap.size w w' := by
  have hR := kr_of h
  have l1 : (x.p : Int) < 256 := by have := hR.p; omega
  have l2 : (x.a : Int) < 256 := by have := hR.a; omega
  have hns : (D.jn ([D.sb [103], D.sb (D.dig x.p), D.sb (D.dig x.a)].map D.ns)).length ≤ 100 := by
    have g1 := dig_len x.p
    have g2 := dig_len x.a
    have g3 := txt_len' x.n
    have g4 := tx_len' x.t
    have i1 : D.ns (D.sb (D.dig x.p)) = D.dig x.p := ns_of (D.dig_lt (by have := hR.p; omega))
    have i2 : D.ns (D.sb (D.dig x.a)) = D.dig x.a := ns_of (D.dig_lt (by have := hR.a; omega))
    have i3 : D.ns (Nm.ts x.n) = Nm.D.txt x.n := ns_of D.ntx_lt
    have i4 : D.ns (D.sb (D.tx x.t)) = D.tx' x.t := ns_of D.tx_lt
    have i5 : D.ns (D.sb [103]) = [103] := rfl
    simp only [List.map_cons, List.map_nil, i1, i2, i3, i4, i5, D.jn, List.length_append, List.length_cons, List.length_nil]
    omega
  have hwp : IntKind.i64.wrap (x.p : Int) = x.p := wrap_small hR.p
  have f0 := Shp.rd_new (S := kS) w _ 39 x rfl
  have cR := keyright_any x
  rw [h] at cR
  have CR := Lib.hid cR
  have CU := Lib.hid (fun w => (show Calls Tryz.prog 67 #[.int .i64 2] w fun e w' => e = .returned (.tuple #[.agg #[.int .i64 16, .bool false, .bool false], .bool true]) ∧ Below w.heap.size w w' from useOf_any 2 w))
  have CI := Lib.hid (fun w => itoa_any x.p (by have := hR.p; omega) w)
  have CA := Lib.hid (fun w => itoa_any x.a (by have := hR.a; omega) w)
  have CN := Lib.hid (fun w => Nm.text_any x.n w)
  have CT := Lib.hid (fun w => text_any x.t w)
  clear cR h hR
  go_enter Tryz.func45, Tryz.ntmps45
  go_wp2_with (go_at_call 50; (with_reducible refine (CR.out _).mono ?_); rintro e w1 ⟨rfl, b1⟩; have f1 := Shp.rd_on f0 b1; have c1 := (kf0 f1).1; rw [hk] at c1; have y1 : ((2 : Nat) : Int) = 2 := rfl; rw [y1] at c1)
  have z1 : Below w.heap.size w w1 := below_up (below_alloc_ _ _) (by simp) b1
  have s1 : w.heap.size < w1.heap.size := by have := b1.size; simp at this; omega
  clear b1 f0
  go_wp2_with (go_at_call 67; (with_reducible refine (CU.out _).mono ?_); rintro e w2 ⟨rfl, b2⟩)
  obtain ⟨W, hW⟩ : ∃ W, w2.alloc (.cells #[.int .i64 16, .bool false, .bool false] 140) = W := ⟨_, rfl⟩
  have fb : kS.rd W ⟨w.heap.size, 0, none⟩ = some x := by rw [← hW]; exact Shp.rd_on (Shp.rd_on f1 b2) (below_alloc_ _ _)
  have UB := Blk.new w2 140 #[.int .i64 16, .bool false, .bool false]
  rw [hW] at UB
  have zW : Below w.heap.size w W := by rw [← hW]; exact (below_up z1 z1.size b2).alloc (by have := z1.size; have := b2.size; omega) _
  try rw [hW]
  clear hW b2 z1 f1 c1 s1
  obtain ⟨m, hm⟩ : ∃ m, w2.heap.size = m := ⟨_, rfl⟩
  rw [hm] at UB
  rw [hm]
  clear hm
  have zd : Below W.heap.size W W.drew := (Below.refl _ _).drew
  refine wp_region_noPanic ?_
  refine wp_region_held_drew (S := fun V => Below W.heap.size W V) (by kernel_rfl) zd (fun _ => ?_)
  refine takeS 0 (some 16) ?va0 (by kernel_rfl) (by kernel_rfl) (by kernel_rfl) (by kernel_rfl) (fun _ _ _ h => h) (by rfl) ?hya0 zd ?resta0
  case hya0 => (intro o ho W hW; simp only [List.getElem?_toArray, List.getElem?_cons_succ, List.getElem?_cons_zero, Option.some.injEq] at ho; subst ho; (try dsimp only at hW); have ff := Shp.rd_on fb hW; obtain ⟨c0, c1, c2, c3, c4⟩ := kf0 ff; rw [hk] at c0; rw [show ((2 : Nat) : Int) = 2 from rfl] at c0; go_simp; try rfl)
  try simp only [Act.put, List.setIfInBounds_toArray, List.set_cons_zero, List.set_cons_succ]
  refine takeS 1 (some 17) ?va1 (by kernel_rfl) (by kernel_rfl) (by kernel_rfl) (by kernel_rfl) (fun _ _ _ h => h) (by rfl) ?hya1 zd ?resta1
  case hya1 => (intro o ho W hW; simp only [List.getElem?_toArray, List.getElem?_cons_succ, List.getElem?_cons_zero, Option.some.injEq] at ho; subst ho; (try dsimp only at hW); have ff := Shp.rd_on fb hW; obtain ⟨c0, c1, c2, c3, c4⟩ := kf0 ff; rw [hk] at c0; rw [show ((2 : Nat) : Int) = 2 from rfl] at c0; go_simp; try rfl)
  try simp only [Act.put, List.setIfInBounds_toArray, List.set_cons_zero, List.set_cons_succ]
  refine takeS 2 (some 18) (.int .u8 1) (by kernel_rfl) (by kernel_rfl) (by kernel_rfl) (by kernel_rfl) (fun _ _ _ h => h) (by rfl) ?hya2 zd ?resta2
  case hya2 => (intro o ho W hW; simp only [List.getElem?_toArray, List.getElem?_cons_succ, List.getElem?_cons_zero, Option.some.injEq] at ho; subst ho; (try dsimp only at hW); have ff := Shp.rd_on fb hW; obtain ⟨c0, c1, c2, c3, c4⟩ := kf0 ff; rw [hk] at c0; rw [show ((2 : Nat) : Int) = 2 from rfl] at c0; go_simp; (first | done | rfl | (rw [hwp])))
  try simp only [Act.put, List.setIfInBounds_toArray, List.set_cons_zero, List.set_cons_succ]
  refine takeS 3 (some 19) ?va3 (by kernel_rfl) (by kernel_rfl) (by kernel_rfl) (by kernel_rfl) (fun _ _ _ h => h) (by rfl) ?hya3 zd ?resta3
  case hya3 => (intro o ho W hW; simp only [List.getElem?_toArray, List.getElem?_cons_succ, List.getElem?_cons_zero, Option.some.injEq] at ho; subst ho; (try dsimp only at hW); have ff := Shp.rd_on fb hW; obtain ⟨c0, c1, c2, c3, c4⟩ := kf0 ff; rw [hk] at c0; rw [show ((2 : Nat) : Int) = 2 from rfl] at c0; go_simp; try rfl)
  try simp only [Act.put, List.setIfInBounds_toArray, List.set_cons_zero, List.set_cons_succ]
  refine takeS 4 (some 20) ?va4 (by kernel_rfl) (by kernel_rfl) (by kernel_rfl) (by kernel_rfl) (fun _ _ _ h => h) (by rfl) ?hya4 zd ?resta4
  case hya4 => (intro o ho W hW; simp only [List.getElem?_toArray, List.getElem?_cons_succ, List.getElem?_cons_zero, Option.some.injEq] at ho; subst ho; (try dsimp only at hW); have ff := Shp.rd_on fb hW; obtain ⟨c0, c1, c2, c3, c4⟩ := kf0 ff; rw [hk] at c0; rw [show ((2 : Nat) : Int) = 2 from rfl] at c0; go_simp; try rfl)
  try simp only [Act.put, List.setIfInBounds_toArray, List.set_cons_zero, List.set_cons_succ]
  refine takeS 5 (some 21) (.string (D.sb [103])) (by kernel_rfl) (by kernel_rfl) (by kernel_rfl) (by kernel_rfl) (fun _ _ _ h => h) (by rfl) ?hya5 zd ?resta5
  case hya5 => (intro o ho W hW; simp only [List.getElem?_toArray, List.getElem?_cons_succ, List.getElem?_cons_zero, Option.some.injEq] at ho; subst ho; (try dsimp only at hW); have ff := Shp.rd_on fb hW; obtain ⟨c0, c1, c2, c3, c4⟩ := kf0 ff; rw [hk] at c0; rw [show ((2 : Nat) : Int) = 2 from rfl] at c0; go_simp; (first | done | rfl | (rw [hwp])))
  try simp only [Act.put, List.setIfInBounds_toArray, List.set_cons_zero, List.set_cons_succ]
  refine takeS 6 (some 22) ?va6 (by kernel_rfl) (by kernel_rfl) (by kernel_rfl) (by kernel_rfl) (fun _ _ _ h => h) (by rfl) ?hya6 zd ?resta6
  case hya6 => (intro o ho W hW; simp only [List.getElem?_toArray, List.getElem?_cons_succ, List.getElem?_cons_zero, Option.some.injEq] at ho; subst ho; (try dsimp only at hW); have ff := Shp.rd_on fb hW; obtain ⟨c0, c1, c2, c3, c4⟩ := kf0 ff; rw [hk] at c0; rw [show ((2 : Nat) : Int) = 2 from rfl] at c0; go_simp; try rfl)
  try simp only [Act.put, List.setIfInBounds_toArray, List.set_cons_zero, List.set_cons_succ]
  refine takeS 7 (some 23) ?va7 (by kernel_rfl) (by kernel_rfl) (by kernel_rfl) (by kernel_rfl) (fun _ _ _ h => h) (by rfl) ?hya7 zd ?resta7
  case hya7 => (intro o ho W hW; simp only [List.getElem?_toArray, List.getElem?_cons_succ, List.getElem?_cons_zero, Option.some.injEq] at ho; subst ho; (try dsimp only at hW); have ff := Shp.rd_on fb hW; obtain ⟨c0, c1, c2, c3, c4⟩ := kf0 ff; rw [hk] at c0; rw [show ((2 : Nat) : Int) = 2 from rfl] at c0; go_simp; try rfl)
  try simp only [Act.put, List.setIfInBounds_toArray, List.set_cons_zero, List.set_cons_succ]
  refine takeS 8 (some 24) (.int .i64 (x.p : Int)) (by kernel_rfl) (by kernel_rfl) (by kernel_rfl) (by kernel_rfl) (fun _ _ _ h => h) (by rfl) ?hya8 zd ?resta8
  case hya8 => (intro o ho W hW; simp only [List.getElem?_toArray, List.getElem?_cons_succ, List.getElem?_cons_zero, Option.some.injEq] at ho; subst ho; (try dsimp only at hW); have ff := Shp.rd_on fb hW; obtain ⟨c0, c1, c2, c3, c4⟩ := kf0 ff; rw [hk] at c0; rw [show ((2 : Nat) : Int) = 2 from rfl] at c0; go_simp; (first | done | rfl | (rw [hwp])))
  try simp only [Act.put, List.setIfInBounds_toArray, List.set_cons_zero, List.set_cons_succ]
  refine nextS 9 (by kernel_rfl) (by rfl) (fun o ho K hK => ?_)
  simp only [List.getElem?_toArray, List.getElem?_cons_succ, List.getElem?_cons_zero, Option.some.injEq] at ho; subst ho
  go_simp
  (go_at_call 73; (with_reducible refine (CI.out _).mono ?_); rintro e v1 ⟨rfl, rfl⟩)
  refine hK.out _ _ zd (fun _ => ?_)
  clear hK K
  try simp only [Act.put, List.setIfInBounds_toArray, List.set_cons_zero, List.set_cons_succ]
  refine nextS 10 (by kernel_rfl) (by rfl) (fun o ho K hK => ?_)
  simp only [List.getElem?_toArray, List.getElem?_cons_succ, List.getElem?_cons_zero, Option.some.injEq] at ho; subst ho
  go_simp
  refine hK.out _ _ (zd.alloc zd.size _) (fun _ => ?_)
  clear hK K
  try simp only [Act.put, List.setIfInBounds_toArray, List.set_cons_zero, List.set_cons_succ]
  refine takeS 11 (some 5) ?vb11 (by kernel_rfl) (by kernel_rfl) (by kernel_rfl) (by kernel_rfl) (fun _ _ _ h => h) (by rfl) ?hyb11 (zd.alloc zd.size _) ?restb11
  case hyb11 => (intro o ho W hW; simp only [List.getElem?_toArray, List.getElem?_cons_succ, List.getElem?_cons_zero, Option.some.injEq] at ho; subst ho; (try dsimp only at hW); skip; go_simp; try rfl)
  try simp only [Act.put, List.setIfInBounds_toArray, List.set_cons_zero, List.set_cons_succ]
  refine wpAnyH_done (by kernel_rfl) ?_ _
  refine NoPanic.normal ?_
  have ho := sown_two W.drew W.heap.size W.heap.size (D.sb [103]) (D.sb (D.dig x.p)) rfl (Nat.le_refl _)
  have zo := zd.alloc zd.size (.cells #[.string (D.sb [103]), .string (D.sb (D.dig x.p))] 9)
  have eL : D.sb [103] = ⟨#[103]⟩ := rfl
  have bo : ∃ V, V = W.drew.alloc (.cells #[.string (D.sb [103]), .string (D.sb (D.dig x.p))] 9) := ⟨_, rfl⟩
  obtain ⟨V, hV⟩ := bo
  rw [← hV] at ho zo
  have uo := UB.on zo
  have u0 := uo.c 0
  have u1 := uo.c 1
  have u2 := uo.c 2
  simp at u0 u1 u2
  obtain ⟨c0, c1, c2, c3, c4⟩ := kf0 (Shp.rd_on fb zo)
  have hV1 : W.drew.alloc (.cells #[.string ⟨#[103]⟩, .string (D.sb (D.dig x.p))] 9) = V := hV.symm
  have hV2 : (W.alloc (.cells #[.string ⟨#[103]⟩, .string (D.sb (D.dig x.p))] 9)).drew = V := hV.symm
  try rw [← hV]
  try rw [hV1]
  try rw [hV2]
  clear hV
  go_wp2_with (first
    | (go_at_call 73; (with_reducible refine (CA.out _).mono ?_); rintro e v2 ⟨rfl, rfl⟩)
    | (at_builtin; (refine sapp _ rfl (.tmp 30) (.tmp 35) rfl rfl (ho.alloc _) rfl (cell_new_at _ _ _ _ (by simp)) (by omega) ?_); intro A3 q3 x3 ho3 hg3; have z3 := (zo.alloc zo.size _).grown hg3 (by have := zo.size; simp; omega) (fun k hk => ho.block_le k hk); have uo := UB.on z3; have u0 := uo.c 0; have u1 := uo.c 1; have u2 := uo.c 2; simp at u0 u1 u2; obtain ⟨c0, c1, c2, c3, c4⟩ := kf0 (Shp.rd_on fb z3)))
  obtain ⟨g, hA, hg, hcell⟩ := ho3.at_ (by omega)
  subst hA
  have cJ := kjoin_any g q3 [D.sb [103], D.sb (D.dig x.p), D.sb (D.dig x.a)] _ (fun j y hy => hcell j y hy) hg (by simp) (by have := ho3.cap; simp; omega) hns
  go_wp2_with (go_at_call 76; (with_reducible refine Calls.mono cJ ?_); rintro e w9 ⟨rfl, b9⟩)
  go_ret
  exact ⟨rfl, below_up zW zW.size (below_up z3 z3.size b9)⟩
set_option maxHeartbeats 8000000 in
theorem ktext_3 (x : D.Ky) (w : World) (h : D.kright x = true) (hk : x.k = 3) : Calls Tryz.prog 45 #[.agg (kS.v x)] w fun e w' => e = .returned (.string (D.sb (D.jn ([D.sb [108], D.sb (D.dig x.p), D.sb (D.tx x.t)].map D.ns)))) ∧ Below w.heap.size w w' := by
  have hR := kr_of h
  have l1 : (x.p : Int) < 256 := by have := hR.p; omega
  have l2 : (x.a : Int) < 256 := by have := hR.a; omega
  have hns : (D.jn ([D.sb [108], D.sb (D.dig x.p), D.sb (D.tx x.t)].map D.ns)).length ≤ 100 := by
    have g1 := dig_len x.p
    have g2 := dig_len x.a
    have g3 := txt_len' x.n
    have g4 := tx_len' x.t
    have i1 : D.ns (D.sb (D.dig x.p)) = D.dig x.p := ns_of (D.dig_lt (by have := hR.p; omega))
    have i2 : D.ns (D.sb (D.dig x.a)) = D.dig x.a := ns_of (D.dig_lt (by have := hR.a; omega))
    have i3 : D.ns (Nm.ts x.n) = Nm.D.txt x.n := ns_of D.ntx_lt
    have i4 : D.ns (D.sb (D.tx x.t)) = D.tx' x.t := ns_of D.tx_lt
    have i5 : D.ns (D.sb [108]) = [108] := rfl
    simp only [List.map_cons, List.map_nil, i1, i2, i3, i4, i5, D.jn, List.length_append, List.length_cons, List.length_nil]
    omega
  have hwp : IntKind.i64.wrap (x.p : Int) = x.p := wrap_small hR.p
  have f0 := Shp.rd_new (S := kS) w _ 39 x rfl
  have cR := keyright_any x
  rw [h] at cR
  have CR := Lib.hid cR
  have CU := Lib.hid (fun w => (show Calls Tryz.prog 67 #[.int .i64 3] w fun e w' => e = .returned (.tuple #[.agg #[.int .i64 0, .bool false, .bool true], .bool true]) ∧ Below w.heap.size w w' from useOf_any 3 w))
  have CI := Lib.hid (fun w => itoa_any x.p (by have := hR.p; omega) w)
  have CA := Lib.hid (fun w => itoa_any x.a (by have := hR.a; omega) w)
  have CN := Lib.hid (fun w => Nm.text_any x.n w)
  have CT := Lib.hid (fun w => text_any x.t w)
  clear cR h hR
  go_enter Tryz.func45, Tryz.ntmps45
  go_wp2_with (go_at_call 50; (with_reducible refine (CR.out _).mono ?_); rintro e w1 ⟨rfl, b1⟩; have f1 := Shp.rd_on f0 b1; have c1 := (kf0 f1).1; rw [hk] at c1; have y1 : ((3 : Nat) : Int) = 3 := rfl; rw [y1] at c1)
  have z1 : Below w.heap.size w w1 := below_up (below_alloc_ _ _) (by simp) b1
  have s1 : w.heap.size < w1.heap.size := by have := b1.size; simp at this; omega
  clear b1 f0
  go_wp2_with (go_at_call 67; (with_reducible refine (CU.out _).mono ?_); rintro e w2 ⟨rfl, b2⟩)
  obtain ⟨W, hW⟩ : ∃ W, w2.alloc (.cells #[.int .i64 0, .bool false, .bool true] 140) = W := ⟨_, rfl⟩
  have fb : kS.rd W ⟨w.heap.size, 0, none⟩ = some x := by rw [← hW]; exact Shp.rd_on (Shp.rd_on f1 b2) (below_alloc_ _ _)
  have UB := Blk.new w2 140 #[.int .i64 0, .bool false, .bool true]
  rw [hW] at UB
  have zW : Below w.heap.size w W := by rw [← hW]; exact (below_up z1 z1.size b2).alloc (by have := z1.size; have := b2.size; omega) _
  try rw [hW]
  clear hW b2 z1 f1 c1 s1
  obtain ⟨m, hm⟩ : ∃ m, w2.heap.size = m := ⟨_, rfl⟩
  rw [hm] at UB
  rw [hm]
  clear hm
  have zd : Below W.heap.size W W.drew := (Below.refl _ _).drew
  refine wp_region_noPanic ?_
  refine wp_region_held_drew (S := fun V => Below W.heap.size W V) (by kernel_rfl) zd (fun _ => ?_)
  refine takeS 0 (some 16) ?va0 (by kernel_rfl) (by kernel_rfl) (by kernel_rfl) (by kernel_rfl) (fun _ _ _ h => h) (by rfl) ?hya0 zd ?resta0
  case hya0 => (intro o ho W hW; simp only [List.getElem?_toArray, List.getElem?_cons_succ, List.getElem?_cons_zero, Option.some.injEq] at ho; subst ho; (try dsimp only at hW); have ff := Shp.rd_on fb hW; obtain ⟨c0, c1, c2, c3, c4⟩ := kf0 ff; rw [hk] at c0; rw [show ((3 : Nat) : Int) = 3 from rfl] at c0; go_simp; try rfl)
  try simp only [Act.put, List.setIfInBounds_toArray, List.set_cons_zero, List.set_cons_succ]
  refine takeS 1 (some 17) ?va1 (by kernel_rfl) (by kernel_rfl) (by kernel_rfl) (by kernel_rfl) (fun _ _ _ h => h) (by rfl) ?hya1 zd ?resta1
  case hya1 => (intro o ho W hW; simp only [List.getElem?_toArray, List.getElem?_cons_succ, List.getElem?_cons_zero, Option.some.injEq] at ho; subst ho; (try dsimp only at hW); have ff := Shp.rd_on fb hW; obtain ⟨c0, c1, c2, c3, c4⟩ := kf0 ff; rw [hk] at c0; rw [show ((3 : Nat) : Int) = 3 from rfl] at c0; go_simp; try rfl)
  try simp only [Act.put, List.setIfInBounds_toArray, List.set_cons_zero, List.set_cons_succ]
  refine takeS 2 (some 18) (.int .u8 2) (by kernel_rfl) (by kernel_rfl) (by kernel_rfl) (by kernel_rfl) (fun _ _ _ h => h) (by rfl) ?hya2 zd ?resta2
  case hya2 => (intro o ho W hW; simp only [List.getElem?_toArray, List.getElem?_cons_succ, List.getElem?_cons_zero, Option.some.injEq] at ho; subst ho; (try dsimp only at hW); have ff := Shp.rd_on fb hW; obtain ⟨c0, c1, c2, c3, c4⟩ := kf0 ff; rw [hk] at c0; rw [show ((3 : Nat) : Int) = 3 from rfl] at c0; go_simp; (first | done | rfl | (rw [hwp])))
  try simp only [Act.put, List.setIfInBounds_toArray, List.set_cons_zero, List.set_cons_succ]
  refine takeS 3 (some 19) ?va3 (by kernel_rfl) (by kernel_rfl) (by kernel_rfl) (by kernel_rfl) (fun _ _ _ h => h) (by rfl) ?hya3 zd ?resta3
  case hya3 => (intro o ho W hW; simp only [List.getElem?_toArray, List.getElem?_cons_succ, List.getElem?_cons_zero, Option.some.injEq] at ho; subst ho; (try dsimp only at hW); have ff := Shp.rd_on fb hW; obtain ⟨c0, c1, c2, c3, c4⟩ := kf0 ff; rw [hk] at c0; rw [show ((3 : Nat) : Int) = 3 from rfl] at c0; go_simp; try rfl)
  try simp only [Act.put, List.setIfInBounds_toArray, List.set_cons_zero, List.set_cons_succ]
  refine takeS 4 (some 20) ?va4 (by kernel_rfl) (by kernel_rfl) (by kernel_rfl) (by kernel_rfl) (fun _ _ _ h => h) (by rfl) ?hya4 zd ?resta4
  case hya4 => (intro o ho W hW; simp only [List.getElem?_toArray, List.getElem?_cons_succ, List.getElem?_cons_zero, Option.some.injEq] at ho; subst ho; (try dsimp only at hW); have ff := Shp.rd_on fb hW; obtain ⟨c0, c1, c2, c3, c4⟩ := kf0 ff; rw [hk] at c0; rw [show ((3 : Nat) : Int) = 3 from rfl] at c0; go_simp; try rfl)
  try simp only [Act.put, List.setIfInBounds_toArray, List.set_cons_zero, List.set_cons_succ]
  refine takeS 5 (some 21) (.string (D.sb [108])) (by kernel_rfl) (by kernel_rfl) (by kernel_rfl) (by kernel_rfl) (fun _ _ _ h => h) (by rfl) ?hya5 zd ?resta5
  case hya5 => (intro o ho W hW; simp only [List.getElem?_toArray, List.getElem?_cons_succ, List.getElem?_cons_zero, Option.some.injEq] at ho; subst ho; (try dsimp only at hW); have ff := Shp.rd_on fb hW; obtain ⟨c0, c1, c2, c3, c4⟩ := kf0 ff; rw [hk] at c0; rw [show ((3 : Nat) : Int) = 3 from rfl] at c0; go_simp; (first | done | rfl | (rw [hwp])))
  try simp only [Act.put, List.setIfInBounds_toArray, List.set_cons_zero, List.set_cons_succ]
  refine takeS 6 (some 22) ?va6 (by kernel_rfl) (by kernel_rfl) (by kernel_rfl) (by kernel_rfl) (fun _ _ _ h => h) (by rfl) ?hya6 zd ?resta6
  case hya6 => (intro o ho W hW; simp only [List.getElem?_toArray, List.getElem?_cons_succ, List.getElem?_cons_zero, Option.some.injEq] at ho; subst ho; (try dsimp only at hW); have ff := Shp.rd_on fb hW; obtain ⟨c0, c1, c2, c3, c4⟩ := kf0 ff; rw [hk] at c0; rw [show ((3 : Nat) : Int) = 3 from rfl] at c0; go_simp; try rfl)
  try simp only [Act.put, List.setIfInBounds_toArray, List.set_cons_zero, List.set_cons_succ]
  refine takeS 7 (some 23) ?va7 (by kernel_rfl) (by kernel_rfl) (by kernel_rfl) (by kernel_rfl) (fun _ _ _ h => h) (by rfl) ?hya7 zd ?resta7
  case hya7 => (intro o ho W hW; simp only [List.getElem?_toArray, List.getElem?_cons_succ, List.getElem?_cons_zero, Option.some.injEq] at ho; subst ho; (try dsimp only at hW); have ff := Shp.rd_on fb hW; obtain ⟨c0, c1, c2, c3, c4⟩ := kf0 ff; rw [hk] at c0; rw [show ((3 : Nat) : Int) = 3 from rfl] at c0; go_simp; try rfl)
  try simp only [Act.put, List.setIfInBounds_toArray, List.set_cons_zero, List.set_cons_succ]
  refine takeS 8 (some 24) (.int .i64 (x.p : Int)) (by kernel_rfl) (by kernel_rfl) (by kernel_rfl) (by kernel_rfl) (fun _ _ _ h => h) (by rfl) ?hya8 zd ?resta8
  case hya8 => (intro o ho W hW; simp only [List.getElem?_toArray, List.getElem?_cons_succ, List.getElem?_cons_zero, Option.some.injEq] at ho; subst ho; (try dsimp only at hW); have ff := Shp.rd_on fb hW; obtain ⟨c0, c1, c2, c3, c4⟩ := kf0 ff; rw [hk] at c0; rw [show ((3 : Nat) : Int) = 3 from rfl] at c0; go_simp; (first | done | rfl | (rw [hwp])))
  try simp only [Act.put, List.setIfInBounds_toArray, List.set_cons_zero, List.set_cons_succ]
  refine nextS 9 (by kernel_rfl) (by rfl) (fun o ho K hK => ?_)
  simp only [List.getElem?_toArray, List.getElem?_cons_succ, List.getElem?_cons_zero, Option.some.injEq] at ho; subst ho
  go_simp
  (go_at_call 73; (with_reducible refine (CI.out _).mono ?_); rintro e v1 ⟨rfl, rfl⟩)
  refine hK.out _ _ zd (fun _ => ?_)
  clear hK K
  try simp only [Act.put, List.setIfInBounds_toArray, List.set_cons_zero, List.set_cons_succ]
  refine nextS 10 (by kernel_rfl) (by rfl) (fun o ho K hK => ?_)
  simp only [List.getElem?_toArray, List.getElem?_cons_succ, List.getElem?_cons_zero, Option.some.injEq] at ho; subst ho
  go_simp
  refine hK.out _ _ (zd.alloc zd.size _) (fun _ => ?_)
  clear hK K
  try simp only [Act.put, List.setIfInBounds_toArray, List.set_cons_zero, List.set_cons_succ]
  refine takeS 11 (some 5) ?vb11 (by kernel_rfl) (by kernel_rfl) (by kernel_rfl) (by kernel_rfl) (fun _ _ _ h => h) (by rfl) ?hyb11 (zd.alloc zd.size _) ?restb11
  case hyb11 => (intro o ho W hW; simp only [List.getElem?_toArray, List.getElem?_cons_succ, List.getElem?_cons_zero, Option.some.injEq] at ho; subst ho; (try dsimp only at hW); skip; go_simp; try rfl)
  try simp only [Act.put, List.setIfInBounds_toArray, List.set_cons_zero, List.set_cons_succ]
  refine wpAnyH_done (by kernel_rfl) ?_ _
  refine NoPanic.normal ?_
  have ho := sown_two W.drew W.heap.size W.heap.size (D.sb [108]) (D.sb (D.dig x.p)) rfl (Nat.le_refl _)
  have zo := zd.alloc zd.size (.cells #[.string (D.sb [108]), .string (D.sb (D.dig x.p))] 9)
  have eL : D.sb [108] = ⟨#[108]⟩ := rfl
  have bo : ∃ V, V = W.drew.alloc (.cells #[.string (D.sb [108]), .string (D.sb (D.dig x.p))] 9) := ⟨_, rfl⟩
  obtain ⟨V, hV⟩ := bo
  rw [← hV] at ho zo
  have uo := UB.on zo
  have u0 := uo.c 0
  have u1 := uo.c 1
  have u2 := uo.c 2
  simp at u0 u1 u2
  obtain ⟨c0, c1, c2, c3, c4⟩ := kf0 (Shp.rd_on fb zo)
  have hV1 : W.drew.alloc (.cells #[.string ⟨#[108]⟩, .string (D.sb (D.dig x.p))] 9) = V := hV.symm
  have hV2 : (W.alloc (.cells #[.string ⟨#[108]⟩, .string (D.sb (D.dig x.p))] 9)).drew = V := hV.symm
  try rw [← hV]
  try rw [hV1]
  try rw [hV2]
  clear hV
  go_wp2_with (first
    | (go_at_call 75; (with_reducible refine (CT.out _).mono ?_); rintro e v4 ⟨rfl, b4⟩; have ht4 := ho.on b4; have zt4 := below_up zo zo.size b4; have uo := UB.on zt4; have u0 := uo.c 0; have u1 := uo.c 1; have u2 := uo.c 2; simp at u0 u1 u2; obtain ⟨c0, c1, c2, c3, c4⟩ := kf0 (Shp.rd_on fb zt4))
    | (at_builtin; (refine sapp _ rfl (.tmp 47) (.tmp 51) rfl rfl (ht4.alloc _) rfl (cell_new_at _ _ _ _ (by simp)) (by omega) ?_); intro A5 q5 x5 ho5 hg5; have z5 := (zt4.alloc zt4.size _).grown hg5 (by have := zt4.size; simp; omega) (fun k hk => ht4.block_le k hk); have uo := UB.on z5; have u0 := uo.c 0; have u1 := uo.c 1; have u2 := uo.c 2; simp at u0 u1 u2; obtain ⟨c0, c1, c2, c3, c4⟩ := kf0 (Shp.rd_on fb z5)))
  obtain ⟨g, hA, hg, hcell⟩ := ho5.at_ (by omega)
  subst hA
  have cJ := kjoin_any g q5 [D.sb [108], D.sb (D.dig x.p), D.sb (D.tx x.t)] _ (fun j y hy => hcell j y hy) hg (by simp) (by have := ho5.cap; simp; omega) hns
  go_wp2_with (go_at_call 76; (with_reducible refine Calls.mono cJ ?_); rintro e w9 ⟨rfl, b9⟩)
  go_ret
  exact ⟨rfl, below_up zW zW.size (below_up z5 z5.size b9)⟩
set_option maxHeartbeats 8000000 in
theorem ktext_4 (x : D.Ky) (w : World) (h : D.kright x = true) (hk : x.k = 4) : Calls Tryz.prog 45 #[.agg (kS.v x)] w fun e w' => e = .returned (.string (D.sb (D.jn ([D.sb [98], D.sb (D.dig x.p), D.sb (D.dig x.a)].map D.ns)))) ∧ Below w.heap.size w w' := by
  have hR := kr_of h
  have l1 : (x.p : Int) < 256 := by have := hR.p; omega
  have l2 : (x.a : Int) < 256 := by have := hR.a; omega
  have hns : (D.jn ([D.sb [98], D.sb (D.dig x.p), D.sb (D.dig x.a)].map D.ns)).length ≤ 100 := by
    have g1 := dig_len x.p
    have g2 := dig_len x.a
    have g3 := txt_len' x.n
    have g4 := tx_len' x.t
    have i1 : D.ns (D.sb (D.dig x.p)) = D.dig x.p := ns_of (D.dig_lt (by have := hR.p; omega))
    have i2 : D.ns (D.sb (D.dig x.a)) = D.dig x.a := ns_of (D.dig_lt (by have := hR.a; omega))
    have i3 : D.ns (Nm.ts x.n) = Nm.D.txt x.n := ns_of D.ntx_lt
    have i4 : D.ns (D.sb (D.tx x.t)) = D.tx' x.t := ns_of D.tx_lt
    have i5 : D.ns (D.sb [98]) = [98] := rfl
    simp only [List.map_cons, List.map_nil, i1, i2, i3, i4, i5, D.jn, List.length_append, List.length_cons, List.length_nil]
    omega
  have hwp : IntKind.i64.wrap (x.p : Int) = x.p := wrap_small hR.p
  have f0 := Shp.rd_new (S := kS) w _ 39 x rfl
  have cR := keyright_any x
  rw [h] at cR
  have CR := Lib.hid cR
  have CU := Lib.hid (fun w => (show Calls Tryz.prog 67 #[.int .i64 4] w fun e w' => e = .returned (.tuple #[.agg #[.int .i64 4, .bool false, .bool false], .bool true]) ∧ Below w.heap.size w w' from useOf_any 4 w))
  have CI := Lib.hid (fun w => itoa_any x.p (by have := hR.p; omega) w)
  have CA := Lib.hid (fun w => itoa_any x.a (by have := hR.a; omega) w)
  have CN := Lib.hid (fun w => Nm.text_any x.n w)
  have CT := Lib.hid (fun w => text_any x.t w)
  clear cR h hR
  go_enter Tryz.func45, Tryz.ntmps45
  go_wp2_with (go_at_call 50; (with_reducible refine (CR.out _).mono ?_); rintro e w1 ⟨rfl, b1⟩; have f1 := Shp.rd_on f0 b1; have c1 := (kf0 f1).1; rw [hk] at c1; have y1 : ((4 : Nat) : Int) = 4 := rfl; rw [y1] at c1)
  have z1 : Below w.heap.size w w1 := below_up (below_alloc_ _ _) (by simp) b1
  have s1 : w.heap.size < w1.heap.size := by have := b1.size; simp at this; omega
  clear b1 f0
  go_wp2_with (go_at_call 67; (with_reducible refine (CU.out _).mono ?_); rintro e w2 ⟨rfl, b2⟩)
  obtain ⟨W, hW⟩ : ∃ W, w2.alloc (.cells #[.int .i64 4, .bool false, .bool false] 140) = W := ⟨_, rfl⟩
  have fb : kS.rd W ⟨w.heap.size, 0, none⟩ = some x := by rw [← hW]; exact Shp.rd_on (Shp.rd_on f1 b2) (below_alloc_ _ _)
  have UB := Blk.new w2 140 #[.int .i64 4, .bool false, .bool false]
  rw [hW] at UB
  have zW : Below w.heap.size w W := by rw [← hW]; exact (below_up z1 z1.size b2).alloc (by have := z1.size; have := b2.size; omega) _
  try rw [hW]
  clear hW b2 z1 f1 c1 s1
  obtain ⟨m, hm⟩ : ∃ m, w2.heap.size = m := ⟨_, rfl⟩
  rw [hm] at UB
  rw [hm]
  clear hm
  have zd : Below W.heap.size W W.drew := (Below.refl _ _).drew
  refine wp_region_noPanic ?_
  refine wp_region_held_drew (S := fun V => Below W.heap.size W V) (by kernel_rfl) zd (fun _ => ?_)
  refine takeS 0 (some 16) ?va0 (by kernel_rfl) (by kernel_rfl) (by kernel_rfl) (by kernel_rfl) (fun _ _ _ h => h) (by rfl) ?hya0 zd ?resta0
  case hya0 => (intro o ho W hW; simp only [List.getElem?_toArray, List.getElem?_cons_succ, List.getElem?_cons_zero, Option.some.injEq] at ho; subst ho; (try dsimp only at hW); have ff := Shp.rd_on fb hW; obtain ⟨c0, c1, c2, c3, c4⟩ := kf0 ff; rw [hk] at c0; rw [show ((4 : Nat) : Int) = 4 from rfl] at c0; go_simp; try rfl)
  try simp only [Act.put, List.setIfInBounds_toArray, List.set_cons_zero, List.set_cons_succ]
  refine takeS 1 (some 17) ?va1 (by kernel_rfl) (by kernel_rfl) (by kernel_rfl) (by kernel_rfl) (fun _ _ _ h => h) (by rfl) ?hya1 zd ?resta1
  case hya1 => (intro o ho W hW; simp only [List.getElem?_toArray, List.getElem?_cons_succ, List.getElem?_cons_zero, Option.some.injEq] at ho; subst ho; (try dsimp only at hW); have ff := Shp.rd_on fb hW; obtain ⟨c0, c1, c2, c3, c4⟩ := kf0 ff; rw [hk] at c0; rw [show ((4 : Nat) : Int) = 4 from rfl] at c0; go_simp; try rfl)
  try simp only [Act.put, List.setIfInBounds_toArray, List.set_cons_zero, List.set_cons_succ]
  refine takeS 2 (some 18) (.int .u8 3) (by kernel_rfl) (by kernel_rfl) (by kernel_rfl) (by kernel_rfl) (fun _ _ _ h => h) (by rfl) ?hya2 zd ?resta2
  case hya2 => (intro o ho W hW; simp only [List.getElem?_toArray, List.getElem?_cons_succ, List.getElem?_cons_zero, Option.some.injEq] at ho; subst ho; (try dsimp only at hW); have ff := Shp.rd_on fb hW; obtain ⟨c0, c1, c2, c3, c4⟩ := kf0 ff; rw [hk] at c0; rw [show ((4 : Nat) : Int) = 4 from rfl] at c0; go_simp; (first | done | rfl | (rw [hwp])))
  try simp only [Act.put, List.setIfInBounds_toArray, List.set_cons_zero, List.set_cons_succ]
  refine takeS 3 (some 19) ?va3 (by kernel_rfl) (by kernel_rfl) (by kernel_rfl) (by kernel_rfl) (fun _ _ _ h => h) (by rfl) ?hya3 zd ?resta3
  case hya3 => (intro o ho W hW; simp only [List.getElem?_toArray, List.getElem?_cons_succ, List.getElem?_cons_zero, Option.some.injEq] at ho; subst ho; (try dsimp only at hW); have ff := Shp.rd_on fb hW; obtain ⟨c0, c1, c2, c3, c4⟩ := kf0 ff; rw [hk] at c0; rw [show ((4 : Nat) : Int) = 4 from rfl] at c0; go_simp; try rfl)
  try simp only [Act.put, List.setIfInBounds_toArray, List.set_cons_zero, List.set_cons_succ]
  refine takeS 4 (some 20) ?va4 (by kernel_rfl) (by kernel_rfl) (by kernel_rfl) (by kernel_rfl) (fun _ _ _ h => h) (by rfl) ?hya4 zd ?resta4
  case hya4 => (intro o ho W hW; simp only [List.getElem?_toArray, List.getElem?_cons_succ, List.getElem?_cons_zero, Option.some.injEq] at ho; subst ho; (try dsimp only at hW); have ff := Shp.rd_on fb hW; obtain ⟨c0, c1, c2, c3, c4⟩ := kf0 ff; rw [hk] at c0; rw [show ((4 : Nat) : Int) = 4 from rfl] at c0; go_simp; try rfl)
  try simp only [Act.put, List.setIfInBounds_toArray, List.set_cons_zero, List.set_cons_succ]
  refine takeS 5 (some 21) (.string (D.sb [98])) (by kernel_rfl) (by kernel_rfl) (by kernel_rfl) (by kernel_rfl) (fun _ _ _ h => h) (by rfl) ?hya5 zd ?resta5
  case hya5 => (intro o ho W hW; simp only [List.getElem?_toArray, List.getElem?_cons_succ, List.getElem?_cons_zero, Option.some.injEq] at ho; subst ho; (try dsimp only at hW); have ff := Shp.rd_on fb hW; obtain ⟨c0, c1, c2, c3, c4⟩ := kf0 ff; rw [hk] at c0; rw [show ((4 : Nat) : Int) = 4 from rfl] at c0; go_simp; (first | done | rfl | (rw [hwp])))
  try simp only [Act.put, List.setIfInBounds_toArray, List.set_cons_zero, List.set_cons_succ]
  refine takeS 6 (some 22) ?va6 (by kernel_rfl) (by kernel_rfl) (by kernel_rfl) (by kernel_rfl) (fun _ _ _ h => h) (by rfl) ?hya6 zd ?resta6
  case hya6 => (intro o ho W hW; simp only [List.getElem?_toArray, List.getElem?_cons_succ, List.getElem?_cons_zero, Option.some.injEq] at ho; subst ho; (try dsimp only at hW); have ff := Shp.rd_on fb hW; obtain ⟨c0, c1, c2, c3, c4⟩ := kf0 ff; rw [hk] at c0; rw [show ((4 : Nat) : Int) = 4 from rfl] at c0; go_simp; try rfl)
  try simp only [Act.put, List.setIfInBounds_toArray, List.set_cons_zero, List.set_cons_succ]
  refine takeS 7 (some 23) ?va7 (by kernel_rfl) (by kernel_rfl) (by kernel_rfl) (by kernel_rfl) (fun _ _ _ h => h) (by rfl) ?hya7 zd ?resta7
  case hya7 => (intro o ho W hW; simp only [List.getElem?_toArray, List.getElem?_cons_succ, List.getElem?_cons_zero, Option.some.injEq] at ho; subst ho; (try dsimp only at hW); have ff := Shp.rd_on fb hW; obtain ⟨c0, c1, c2, c3, c4⟩ := kf0 ff; rw [hk] at c0; rw [show ((4 : Nat) : Int) = 4 from rfl] at c0; go_simp; try rfl)
  try simp only [Act.put, List.setIfInBounds_toArray, List.set_cons_zero, List.set_cons_succ]
  refine takeS 8 (some 24) (.int .i64 (x.p : Int)) (by kernel_rfl) (by kernel_rfl) (by kernel_rfl) (by kernel_rfl) (fun _ _ _ h => h) (by rfl) ?hya8 zd ?resta8
  case hya8 => (intro o ho W hW; simp only [List.getElem?_toArray, List.getElem?_cons_succ, List.getElem?_cons_zero, Option.some.injEq] at ho; subst ho; (try dsimp only at hW); have ff := Shp.rd_on fb hW; obtain ⟨c0, c1, c2, c3, c4⟩ := kf0 ff; rw [hk] at c0; rw [show ((4 : Nat) : Int) = 4 from rfl] at c0; go_simp; (first | done | rfl | (rw [hwp])))
  try simp only [Act.put, List.setIfInBounds_toArray, List.set_cons_zero, List.set_cons_succ]
  refine nextS 9 (by kernel_rfl) (by rfl) (fun o ho K hK => ?_)
  simp only [List.getElem?_toArray, List.getElem?_cons_succ, List.getElem?_cons_zero, Option.some.injEq] at ho; subst ho
  go_simp
  (go_at_call 73; (with_reducible refine (CI.out _).mono ?_); rintro e v1 ⟨rfl, rfl⟩)
  refine hK.out _ _ zd (fun _ => ?_)
  clear hK K
  try simp only [Act.put, List.setIfInBounds_toArray, List.set_cons_zero, List.set_cons_succ]
  refine nextS 10 (by kernel_rfl) (by rfl) (fun o ho K hK => ?_)
  simp only [List.getElem?_toArray, List.getElem?_cons_succ, List.getElem?_cons_zero, Option.some.injEq] at ho; subst ho
  go_simp
  refine hK.out _ _ (zd.alloc zd.size _) (fun _ => ?_)
  clear hK K
  try simp only [Act.put, List.setIfInBounds_toArray, List.set_cons_zero, List.set_cons_succ]
  refine takeS 11 (some 5) ?vb11 (by kernel_rfl) (by kernel_rfl) (by kernel_rfl) (by kernel_rfl) (fun _ _ _ h => h) (by rfl) ?hyb11 (zd.alloc zd.size _) ?restb11
  case hyb11 => (intro o ho W hW; simp only [List.getElem?_toArray, List.getElem?_cons_succ, List.getElem?_cons_zero, Option.some.injEq] at ho; subst ho; (try dsimp only at hW); skip; go_simp; try rfl)
  try simp only [Act.put, List.setIfInBounds_toArray, List.set_cons_zero, List.set_cons_succ]
  refine wpAnyH_done (by kernel_rfl) ?_ _
  refine NoPanic.normal ?_
  have ho := sown_two W.drew W.heap.size W.heap.size (D.sb [98]) (D.sb (D.dig x.p)) rfl (Nat.le_refl _)
  have zo := zd.alloc zd.size (.cells #[.string (D.sb [98]), .string (D.sb (D.dig x.p))] 9)
  have eL : D.sb [98] = ⟨#[98]⟩ := rfl
  have bo : ∃ V, V = W.drew.alloc (.cells #[.string (D.sb [98]), .string (D.sb (D.dig x.p))] 9) := ⟨_, rfl⟩
  obtain ⟨V, hV⟩ := bo
  rw [← hV] at ho zo
  have uo := UB.on zo
  have u0 := uo.c 0
  have u1 := uo.c 1
  have u2 := uo.c 2
  simp at u0 u1 u2
  obtain ⟨c0, c1, c2, c3, c4⟩ := kf0 (Shp.rd_on fb zo)
  have hV1 : W.drew.alloc (.cells #[.string ⟨#[98]⟩, .string (D.sb (D.dig x.p))] 9) = V := hV.symm
  have hV2 : (W.alloc (.cells #[.string ⟨#[98]⟩, .string (D.sb (D.dig x.p))] 9)).drew = V := hV.symm
  try rw [← hV]
  try rw [hV1]
  try rw [hV2]
  clear hV
  go_wp2_with (first
    | (go_at_call 73; (with_reducible refine (CA.out _).mono ?_); rintro e v2 ⟨rfl, rfl⟩)
    | (at_builtin; (refine sapp _ rfl (.tmp 30) (.tmp 35) rfl rfl (ho.alloc _) rfl (cell_new_at _ _ _ _ (by simp)) (by omega) ?_); intro A3 q3 x3 ho3 hg3; have z3 := (zo.alloc zo.size _).grown hg3 (by have := zo.size; simp; omega) (fun k hk => ho.block_le k hk); have uo := UB.on z3; have u0 := uo.c 0; have u1 := uo.c 1; have u2 := uo.c 2; simp at u0 u1 u2; obtain ⟨c0, c1, c2, c3, c4⟩ := kf0 (Shp.rd_on fb z3)))
  obtain ⟨g, hA, hg, hcell⟩ := ho3.at_ (by omega)
  subst hA
  have cJ := kjoin_any g q3 [D.sb [98], D.sb (D.dig x.p), D.sb (D.dig x.a)] _ (fun j y hy => hcell j y hy) hg (by simp) (by have := ho3.cap; simp; omega) hns
  go_wp2_with (go_at_call 76; (with_reducible refine Calls.mono cJ ?_); rintro e w9 ⟨rfl, b9⟩)
  go_ret
  exact ⟨rfl, below_up zW zW.size (below_up z3 z3.size b9)⟩
set_option maxHeartbeats 8000000 in
theorem ktext_5 (x : D.Ky) (w : World) (h : D.kright x = true) (hk : x.k = 5) : Calls Tryz.prog 45 #[.agg (kS.v x)] w fun e w' => e = .returned (.string (D.sb (D.jn ([D.sb [115], D.sb (D.dig x.p), D.sb (D.dig x.a), Nm.ts x.n].map D.ns)))) ∧ Below w.heap.size w w' := by
  have hR := kr_of h
  have l1 : (x.p : Int) < 256 := by have := hR.p; omega
  have l2 : (x.a : Int) < 256 := by have := hR.a; omega
  have hns : (D.jn ([D.sb [115], D.sb (D.dig x.p), D.sb (D.dig x.a), Nm.ts x.n].map D.ns)).length ≤ 100 := by
    have g1 := dig_len x.p
    have g2 := dig_len x.a
    have g3 := txt_len' x.n
    have g4 := tx_len' x.t
    have i1 : D.ns (D.sb (D.dig x.p)) = D.dig x.p := ns_of (D.dig_lt (by have := hR.p; omega))
    have i2 : D.ns (D.sb (D.dig x.a)) = D.dig x.a := ns_of (D.dig_lt (by have := hR.a; omega))
    have i3 : D.ns (Nm.ts x.n) = Nm.D.txt x.n := ns_of D.ntx_lt
    have i4 : D.ns (D.sb (D.tx x.t)) = D.tx' x.t := ns_of D.tx_lt
    have i5 : D.ns (D.sb [115]) = [115] := rfl
    simp only [List.map_cons, List.map_nil, i1, i2, i3, i4, i5, D.jn, List.length_append, List.length_cons, List.length_nil]
    omega
  have hwp : IntKind.i64.wrap (x.p : Int) = x.p := wrap_small hR.p
  have f0 := Shp.rd_new (S := kS) w _ 39 x rfl
  have cR := keyright_any x
  rw [h] at cR
  have CR := Lib.hid cR
  have CU := Lib.hid (fun w => (show Calls Tryz.prog 67 #[.int .i64 5] w fun e w' => e = .returned (.tuple #[.agg #[.int .i64 4, .bool true, .bool false], .bool true]) ∧ Below w.heap.size w w' from useOf_any 5 w))
  have CI := Lib.hid (fun w => itoa_any x.p (by have := hR.p; omega) w)
  have CA := Lib.hid (fun w => itoa_any x.a (by have := hR.a; omega) w)
  have CN := Lib.hid (fun w => Nm.text_any x.n w)
  have CT := Lib.hid (fun w => text_any x.t w)
  clear cR h hR
  go_enter Tryz.func45, Tryz.ntmps45
  go_wp2_with (go_at_call 50; (with_reducible refine (CR.out _).mono ?_); rintro e w1 ⟨rfl, b1⟩; have f1 := Shp.rd_on f0 b1; have c1 := (kf0 f1).1; rw [hk] at c1; have y1 : ((5 : Nat) : Int) = 5 := rfl; rw [y1] at c1)
  have z1 : Below w.heap.size w w1 := below_up (below_alloc_ _ _) (by simp) b1
  have s1 : w.heap.size < w1.heap.size := by have := b1.size; simp at this; omega
  clear b1 f0
  go_wp2_with (go_at_call 67; (with_reducible refine (CU.out _).mono ?_); rintro e w2 ⟨rfl, b2⟩)
  obtain ⟨W, hW⟩ : ∃ W, w2.alloc (.cells #[.int .i64 4, .bool true, .bool false] 140) = W := ⟨_, rfl⟩
  have fb : kS.rd W ⟨w.heap.size, 0, none⟩ = some x := by rw [← hW]; exact Shp.rd_on (Shp.rd_on f1 b2) (below_alloc_ _ _)
  have UB := Blk.new w2 140 #[.int .i64 4, .bool true, .bool false]
  rw [hW] at UB
  have zW : Below w.heap.size w W := by rw [← hW]; exact (below_up z1 z1.size b2).alloc (by have := z1.size; have := b2.size; omega) _
  try rw [hW]
  clear hW b2 z1 f1 c1 s1
  obtain ⟨m, hm⟩ : ∃ m, w2.heap.size = m := ⟨_, rfl⟩
  rw [hm] at UB
  rw [hm]
  clear hm
  have zd : Below W.heap.size W W.drew := (Below.refl _ _).drew
  refine wp_region_noPanic ?_
  refine wp_region_held_drew (S := fun V => Below W.heap.size W V) (by kernel_rfl) zd (fun _ => ?_)
  refine takeS 0 (some 16) ?va0 (by kernel_rfl) (by kernel_rfl) (by kernel_rfl) (by kernel_rfl) (fun _ _ _ h => h) (by rfl) ?hya0 zd ?resta0
  case hya0 => (intro o ho W hW; simp only [List.getElem?_toArray, List.getElem?_cons_succ, List.getElem?_cons_zero, Option.some.injEq] at ho; subst ho; (try dsimp only at hW); have ff := Shp.rd_on fb hW; obtain ⟨c0, c1, c2, c3, c4⟩ := kf0 ff; rw [hk] at c0; rw [show ((5 : Nat) : Int) = 5 from rfl] at c0; go_simp; try rfl)
  try simp only [Act.put, List.setIfInBounds_toArray, List.set_cons_zero, List.set_cons_succ]
  refine takeS 1 (some 17) ?va1 (by kernel_rfl) (by kernel_rfl) (by kernel_rfl) (by kernel_rfl) (fun _ _ _ h => h) (by rfl) ?hya1 zd ?resta1
  case hya1 => (intro o ho W hW; simp only [List.getElem?_toArray, List.getElem?_cons_succ, List.getElem?_cons_zero, Option.some.injEq] at ho; subst ho; (try dsimp only at hW); have ff := Shp.rd_on fb hW; obtain ⟨c0, c1, c2, c3, c4⟩ := kf0 ff; rw [hk] at c0; rw [show ((5 : Nat) : Int) = 5 from rfl] at c0; go_simp; try rfl)
  try simp only [Act.put, List.setIfInBounds_toArray, List.set_cons_zero, List.set_cons_succ]
  refine takeS 2 (some 18) (.int .u8 4) (by kernel_rfl) (by kernel_rfl) (by kernel_rfl) (by kernel_rfl) (fun _ _ _ h => h) (by rfl) ?hya2 zd ?resta2
  case hya2 => (intro o ho W hW; simp only [List.getElem?_toArray, List.getElem?_cons_succ, List.getElem?_cons_zero, Option.some.injEq] at ho; subst ho; (try dsimp only at hW); have ff := Shp.rd_on fb hW; obtain ⟨c0, c1, c2, c3, c4⟩ := kf0 ff; rw [hk] at c0; rw [show ((5 : Nat) : Int) = 5 from rfl] at c0; go_simp; (first | done | rfl | (rw [hwp])))
  try simp only [Act.put, List.setIfInBounds_toArray, List.set_cons_zero, List.set_cons_succ]
  refine takeS 3 (some 19) ?va3 (by kernel_rfl) (by kernel_rfl) (by kernel_rfl) (by kernel_rfl) (fun _ _ _ h => h) (by rfl) ?hya3 zd ?resta3
  case hya3 => (intro o ho W hW; simp only [List.getElem?_toArray, List.getElem?_cons_succ, List.getElem?_cons_zero, Option.some.injEq] at ho; subst ho; (try dsimp only at hW); have ff := Shp.rd_on fb hW; obtain ⟨c0, c1, c2, c3, c4⟩ := kf0 ff; rw [hk] at c0; rw [show ((5 : Nat) : Int) = 5 from rfl] at c0; go_simp; try rfl)
  try simp only [Act.put, List.setIfInBounds_toArray, List.set_cons_zero, List.set_cons_succ]
  refine takeS 4 (some 20) ?va4 (by kernel_rfl) (by kernel_rfl) (by kernel_rfl) (by kernel_rfl) (fun _ _ _ h => h) (by rfl) ?hya4 zd ?resta4
  case hya4 => (intro o ho W hW; simp only [List.getElem?_toArray, List.getElem?_cons_succ, List.getElem?_cons_zero, Option.some.injEq] at ho; subst ho; (try dsimp only at hW); have ff := Shp.rd_on fb hW; obtain ⟨c0, c1, c2, c3, c4⟩ := kf0 ff; rw [hk] at c0; rw [show ((5 : Nat) : Int) = 5 from rfl] at c0; go_simp; try rfl)
  try simp only [Act.put, List.setIfInBounds_toArray, List.set_cons_zero, List.set_cons_succ]
  refine takeS 5 (some 21) (.string (D.sb [115])) (by kernel_rfl) (by kernel_rfl) (by kernel_rfl) (by kernel_rfl) (fun _ _ _ h => h) (by rfl) ?hya5 zd ?resta5
  case hya5 => (intro o ho W hW; simp only [List.getElem?_toArray, List.getElem?_cons_succ, List.getElem?_cons_zero, Option.some.injEq] at ho; subst ho; (try dsimp only at hW); have ff := Shp.rd_on fb hW; obtain ⟨c0, c1, c2, c3, c4⟩ := kf0 ff; rw [hk] at c0; rw [show ((5 : Nat) : Int) = 5 from rfl] at c0; go_simp; (first | done | rfl | (rw [hwp])))
  try simp only [Act.put, List.setIfInBounds_toArray, List.set_cons_zero, List.set_cons_succ]
  refine takeS 6 (some 22) ?va6 (by kernel_rfl) (by kernel_rfl) (by kernel_rfl) (by kernel_rfl) (fun _ _ _ h => h) (by rfl) ?hya6 zd ?resta6
  case hya6 => (intro o ho W hW; simp only [List.getElem?_toArray, List.getElem?_cons_succ, List.getElem?_cons_zero, Option.some.injEq] at ho; subst ho; (try dsimp only at hW); have ff := Shp.rd_on fb hW; obtain ⟨c0, c1, c2, c3, c4⟩ := kf0 ff; rw [hk] at c0; rw [show ((5 : Nat) : Int) = 5 from rfl] at c0; go_simp; try rfl)
  try simp only [Act.put, List.setIfInBounds_toArray, List.set_cons_zero, List.set_cons_succ]
  refine takeS 7 (some 23) ?va7 (by kernel_rfl) (by kernel_rfl) (by kernel_rfl) (by kernel_rfl) (fun _ _ _ h => h) (by rfl) ?hya7 zd ?resta7
  case hya7 => (intro o ho W hW; simp only [List.getElem?_toArray, List.getElem?_cons_succ, List.getElem?_cons_zero, Option.some.injEq] at ho; subst ho; (try dsimp only at hW); have ff := Shp.rd_on fb hW; obtain ⟨c0, c1, c2, c3, c4⟩ := kf0 ff; rw [hk] at c0; rw [show ((5 : Nat) : Int) = 5 from rfl] at c0; go_simp; try rfl)
  try simp only [Act.put, List.setIfInBounds_toArray, List.set_cons_zero, List.set_cons_succ]
  refine takeS 8 (some 24) (.int .i64 (x.p : Int)) (by kernel_rfl) (by kernel_rfl) (by kernel_rfl) (by kernel_rfl) (fun _ _ _ h => h) (by rfl) ?hya8 zd ?resta8
  case hya8 => (intro o ho W hW; simp only [List.getElem?_toArray, List.getElem?_cons_succ, List.getElem?_cons_zero, Option.some.injEq] at ho; subst ho; (try dsimp only at hW); have ff := Shp.rd_on fb hW; obtain ⟨c0, c1, c2, c3, c4⟩ := kf0 ff; rw [hk] at c0; rw [show ((5 : Nat) : Int) = 5 from rfl] at c0; go_simp; (first | done | rfl | (rw [hwp])))
  try simp only [Act.put, List.setIfInBounds_toArray, List.set_cons_zero, List.set_cons_succ]
  refine nextS 9 (by kernel_rfl) (by rfl) (fun o ho K hK => ?_)
  simp only [List.getElem?_toArray, List.getElem?_cons_succ, List.getElem?_cons_zero, Option.some.injEq] at ho; subst ho
  go_simp
  (go_at_call 73; (with_reducible refine (CI.out _).mono ?_); rintro e v1 ⟨rfl, rfl⟩)
  refine hK.out _ _ zd (fun _ => ?_)
  clear hK K
  try simp only [Act.put, List.setIfInBounds_toArray, List.set_cons_zero, List.set_cons_succ]
  refine nextS 10 (by kernel_rfl) (by rfl) (fun o ho K hK => ?_)
  simp only [List.getElem?_toArray, List.getElem?_cons_succ, List.getElem?_cons_zero, Option.some.injEq] at ho; subst ho
  go_simp
  refine hK.out _ _ (zd.alloc zd.size _) (fun _ => ?_)
  clear hK K
  try simp only [Act.put, List.setIfInBounds_toArray, List.set_cons_zero, List.set_cons_succ]
  refine takeS 11 (some 5) ?vb11 (by kernel_rfl) (by kernel_rfl) (by kernel_rfl) (by kernel_rfl) (fun _ _ _ h => h) (by rfl) ?hyb11 (zd.alloc zd.size _) ?restb11
  case hyb11 => (intro o ho W hW; simp only [List.getElem?_toArray, List.getElem?_cons_succ, List.getElem?_cons_zero, Option.some.injEq] at ho; subst ho; (try dsimp only at hW); skip; go_simp; try rfl)
  try simp only [Act.put, List.setIfInBounds_toArray, List.set_cons_zero, List.set_cons_succ]
  refine wpAnyH_done (by kernel_rfl) ?_ _
  refine NoPanic.normal ?_
  have ho := sown_two W.drew W.heap.size W.heap.size (D.sb [115]) (D.sb (D.dig x.p)) rfl (Nat.le_refl _)
  have zo := zd.alloc zd.size (.cells #[.string (D.sb [115]), .string (D.sb (D.dig x.p))] 9)
  have eL : D.sb [115] = ⟨#[115]⟩ := rfl
  have bo : ∃ V, V = W.drew.alloc (.cells #[.string (D.sb [115]), .string (D.sb (D.dig x.p))] 9) := ⟨_, rfl⟩
  obtain ⟨V, hV⟩ := bo
  rw [← hV] at ho zo
  have uo := UB.on zo
  have u0 := uo.c 0
  have u1 := uo.c 1
  have u2 := uo.c 2
  simp at u0 u1 u2
  obtain ⟨c0, c1, c2, c3, c4⟩ := kf0 (Shp.rd_on fb zo)
  have hV1 : W.drew.alloc (.cells #[.string ⟨#[115]⟩, .string (D.sb (D.dig x.p))] 9) = V := hV.symm
  have hV2 : (W.alloc (.cells #[.string ⟨#[115]⟩, .string (D.sb (D.dig x.p))] 9)).drew = V := hV.symm
  try rw [← hV]
  try rw [hV1]
  try rw [hV2]
  clear hV
  go_wp2_with (first
    | (go_at_call 73; (with_reducible refine (CA.out _).mono ?_); rintro e v2 ⟨rfl, rfl⟩)
    | (at_builtin; (refine sapp _ rfl (.tmp 30) (.tmp 35) rfl rfl (ho.alloc _) rfl (cell_new_at _ _ _ _ (by simp)) (by omega) ?_); intro A3 q3 x3 ho3 hg3; have z3 := (zo.alloc zo.size _).grown hg3 (by have := zo.size; simp; omega) (fun k hk => ho.block_le k hk); have uo := UB.on z3; have u0 := uo.c 0; have u1 := uo.c 1; have u2 := uo.c 2; simp at u0 u1 u2; obtain ⟨c0, c1, c2, c3, c4⟩ := kf0 (Shp.rd_on fb z3))
    | (go_at_call 74; (with_reducible refine (CN.out _).mono ?_); rintro e v3 ⟨rfl, b3⟩; have hn3 := ho3.on b3; have zn3 := below_up z3 z3.size b3; have uo := UB.on zn3; have u0 := uo.c 0; have u1 := uo.c 1; have u2 := uo.c 2; simp at u0 u1 u2; obtain ⟨c0, c1, c2, c3, c4⟩ := kf0 (Shp.rd_on fb zn3))
    | (at_builtin; (refine sapp _ rfl (.tmp 39) (.tmp 43) rfl rfl (hn3.alloc _) rfl (cell_new_at _ _ _ _ (by simp)) (by omega) ?_); intro A4 q4 x4 ho4 hg4; have z4 := (zn3.alloc zn3.size _).grown hg4 (by have := zn3.size; simp; omega) (fun k hk => hn3.block_le k hk); have uo := UB.on z4; have u0 := uo.c 0; have u1 := uo.c 1; have u2 := uo.c 2; simp at u0 u1 u2; obtain ⟨c0, c1, c2, c3, c4⟩ := kf0 (Shp.rd_on fb z4)))
  obtain ⟨g, hA, hg, hcell⟩ := ho4.at_ (by omega)
  subst hA
  have cJ := kjoin_any g q4 [D.sb [115], D.sb (D.dig x.p), D.sb (D.dig x.a), Nm.ts x.n] _ (fun j y hy => hcell j y hy) hg (by simp) (by have := ho4.cap; simp; omega) hns
  go_wp2_with (go_at_call 76; (with_reducible refine Calls.mono cJ ?_); rintro e w9 ⟨rfl, b9⟩)
  go_ret
  exact ⟨rfl, below_up zW zW.size (below_up z4 z4.size b9)⟩
set_option maxHeartbeats 8000000 in
theorem ktext_6 (x : D.Ky) (w : World) (h : D.kright x = true) (hk : x.k = 6) : Calls Tryz.prog 45 #[.agg (kS.v x)] w fun e w' => e = .returned (.string (D.sb (D.jn ([D.sb [116], D.sb (D.dig x.p), D.sb (D.dig x.a), Nm.ts x.n, D.sb (D.tx x.t)].map D.ns)))) ∧ Below w.heap.size w w' := by
  have hR := kr_of h
  have l1 : (x.p : Int) < 256 := by have := hR.p; omega
  have l2 : (x.a : Int) < 256 := by have := hR.a; omega
  have hns : (D.jn ([D.sb [116], D.sb (D.dig x.p), D.sb (D.dig x.a), Nm.ts x.n, D.sb (D.tx x.t)].map D.ns)).length ≤ 100 := by
    have g1 := dig_len x.p
    have g2 := dig_len x.a
    have g3 := txt_len' x.n
    have g4 := tx_len' x.t
    have i1 : D.ns (D.sb (D.dig x.p)) = D.dig x.p := ns_of (D.dig_lt (by have := hR.p; omega))
    have i2 : D.ns (D.sb (D.dig x.a)) = D.dig x.a := ns_of (D.dig_lt (by have := hR.a; omega))
    have i3 : D.ns (Nm.ts x.n) = Nm.D.txt x.n := ns_of D.ntx_lt
    have i4 : D.ns (D.sb (D.tx x.t)) = D.tx' x.t := ns_of D.tx_lt
    have i5 : D.ns (D.sb [116]) = [116] := rfl
    simp only [List.map_cons, List.map_nil, i1, i2, i3, i4, i5, D.jn, List.length_append, List.length_cons, List.length_nil]
    omega
  have hwp : IntKind.i64.wrap (x.p : Int) = x.p := wrap_small hR.p
  have f0 := Shp.rd_new (S := kS) w _ 39 x rfl
  have cR := keyright_any x
  rw [h] at cR
  have CR := Lib.hid cR
  have CU := Lib.hid (fun w => (show Calls Tryz.prog 67 #[.int .i64 6] w fun e w' => e = .returned (.tuple #[.agg #[.int .i64 4, .bool true, .bool true], .bool true]) ∧ Below w.heap.size w w' from useOf_any 6 w))
  have CI := Lib.hid (fun w => itoa_any x.p (by have := hR.p; omega) w)
  have CA := Lib.hid (fun w => itoa_any x.a (by have := hR.a; omega) w)
  have CN := Lib.hid (fun w => Nm.text_any x.n w)
  have CT := Lib.hid (fun w => text_any x.t w)
  clear cR h hR
  go_enter Tryz.func45, Tryz.ntmps45
  go_wp2_with (go_at_call 50; (with_reducible refine (CR.out _).mono ?_); rintro e w1 ⟨rfl, b1⟩; have f1 := Shp.rd_on f0 b1; have c1 := (kf0 f1).1; rw [hk] at c1; have y1 : ((6 : Nat) : Int) = 6 := rfl; rw [y1] at c1)
  have z1 : Below w.heap.size w w1 := below_up (below_alloc_ _ _) (by simp) b1
  have s1 : w.heap.size < w1.heap.size := by have := b1.size; simp at this; omega
  clear b1 f0
  go_wp2_with (go_at_call 67; (with_reducible refine (CU.out _).mono ?_); rintro e w2 ⟨rfl, b2⟩)
  obtain ⟨W, hW⟩ : ∃ W, w2.alloc (.cells #[.int .i64 4, .bool true, .bool true] 140) = W := ⟨_, rfl⟩
  have fb : kS.rd W ⟨w.heap.size, 0, none⟩ = some x := by rw [← hW]; exact Shp.rd_on (Shp.rd_on f1 b2) (below_alloc_ _ _)
  have UB := Blk.new w2 140 #[.int .i64 4, .bool true, .bool true]
  rw [hW] at UB
  have zW : Below w.heap.size w W := by rw [← hW]; exact (below_up z1 z1.size b2).alloc (by have := z1.size; have := b2.size; omega) _
  try rw [hW]
  clear hW b2 z1 f1 c1 s1
  obtain ⟨m, hm⟩ : ∃ m, w2.heap.size = m := ⟨_, rfl⟩
  rw [hm] at UB
  rw [hm]
  clear hm
  have zd : Below W.heap.size W W.drew := (Below.refl _ _).drew
  refine wp_region_noPanic ?_
  refine wp_region_held_drew (S := fun V => Below W.heap.size W V) (by kernel_rfl) zd (fun _ => ?_)
  refine takeS 0 (some 16) ?va0 (by kernel_rfl) (by kernel_rfl) (by kernel_rfl) (by kernel_rfl) (fun _ _ _ h => h) (by rfl) ?hya0 zd ?resta0
  case hya0 => (intro o ho W hW; simp only [List.getElem?_toArray, List.getElem?_cons_succ, List.getElem?_cons_zero, Option.some.injEq] at ho; subst ho; (try dsimp only at hW); have ff := Shp.rd_on fb hW; obtain ⟨c0, c1, c2, c3, c4⟩ := kf0 ff; rw [hk] at c0; rw [show ((6 : Nat) : Int) = 6 from rfl] at c0; go_simp; try rfl)
  try simp only [Act.put, List.setIfInBounds_toArray, List.set_cons_zero, List.set_cons_succ]
  refine takeS 1 (some 17) ?va1 (by kernel_rfl) (by kernel_rfl) (by kernel_rfl) (by kernel_rfl) (fun _ _ _ h => h) (by rfl) ?hya1 zd ?resta1
  case hya1 => (intro o ho W hW; simp only [List.getElem?_toArray, List.getElem?_cons_succ, List.getElem?_cons_zero, Option.some.injEq] at ho; subst ho; (try dsimp only at hW); have ff := Shp.rd_on fb hW; obtain ⟨c0, c1, c2, c3, c4⟩ := kf0 ff; rw [hk] at c0; rw [show ((6 : Nat) : Int) = 6 from rfl] at c0; go_simp; try rfl)
  try simp only [Act.put, List.setIfInBounds_toArray, List.set_cons_zero, List.set_cons_succ]
  refine takeS 2 (some 18) (.int .u8 5) (by kernel_rfl) (by kernel_rfl) (by kernel_rfl) (by kernel_rfl) (fun _ _ _ h => h) (by rfl) ?hya2 zd ?resta2
  case hya2 => (intro o ho W hW; simp only [List.getElem?_toArray, List.getElem?_cons_succ, List.getElem?_cons_zero, Option.some.injEq] at ho; subst ho; (try dsimp only at hW); have ff := Shp.rd_on fb hW; obtain ⟨c0, c1, c2, c3, c4⟩ := kf0 ff; rw [hk] at c0; rw [show ((6 : Nat) : Int) = 6 from rfl] at c0; go_simp; (first | done | rfl | (rw [hwp])))
  try simp only [Act.put, List.setIfInBounds_toArray, List.set_cons_zero, List.set_cons_succ]
  refine takeS 3 (some 19) ?va3 (by kernel_rfl) (by kernel_rfl) (by kernel_rfl) (by kernel_rfl) (fun _ _ _ h => h) (by rfl) ?hya3 zd ?resta3
  case hya3 => (intro o ho W hW; simp only [List.getElem?_toArray, List.getElem?_cons_succ, List.getElem?_cons_zero, Option.some.injEq] at ho; subst ho; (try dsimp only at hW); have ff := Shp.rd_on fb hW; obtain ⟨c0, c1, c2, c3, c4⟩ := kf0 ff; rw [hk] at c0; rw [show ((6 : Nat) : Int) = 6 from rfl] at c0; go_simp; try rfl)
  try simp only [Act.put, List.setIfInBounds_toArray, List.set_cons_zero, List.set_cons_succ]
  refine takeS 4 (some 20) ?va4 (by kernel_rfl) (by kernel_rfl) (by kernel_rfl) (by kernel_rfl) (fun _ _ _ h => h) (by rfl) ?hya4 zd ?resta4
  case hya4 => (intro o ho W hW; simp only [List.getElem?_toArray, List.getElem?_cons_succ, List.getElem?_cons_zero, Option.some.injEq] at ho; subst ho; (try dsimp only at hW); have ff := Shp.rd_on fb hW; obtain ⟨c0, c1, c2, c3, c4⟩ := kf0 ff; rw [hk] at c0; rw [show ((6 : Nat) : Int) = 6 from rfl] at c0; go_simp; try rfl)
  try simp only [Act.put, List.setIfInBounds_toArray, List.set_cons_zero, List.set_cons_succ]
  refine takeS 5 (some 21) (.string (D.sb [116])) (by kernel_rfl) (by kernel_rfl) (by kernel_rfl) (by kernel_rfl) (fun _ _ _ h => h) (by rfl) ?hya5 zd ?resta5
  case hya5 => (intro o ho W hW; simp only [List.getElem?_toArray, List.getElem?_cons_succ, List.getElem?_cons_zero, Option.some.injEq] at ho; subst ho; (try dsimp only at hW); have ff := Shp.rd_on fb hW; obtain ⟨c0, c1, c2, c3, c4⟩ := kf0 ff; rw [hk] at c0; rw [show ((6 : Nat) : Int) = 6 from rfl] at c0; go_simp; (first | done | rfl | (rw [hwp])))
  try simp only [Act.put, List.setIfInBounds_toArray, List.set_cons_zero, List.set_cons_succ]
  refine takeS 6 (some 22) ?va6 (by kernel_rfl) (by kernel_rfl) (by kernel_rfl) (by kernel_rfl) (fun _ _ _ h => h) (by rfl) ?hya6 zd ?resta6
  case hya6 => (intro o ho W hW; simp only [List.getElem?_toArray, List.getElem?_cons_succ, List.getElem?_cons_zero, Option.some.injEq] at ho; subst ho; (try dsimp only at hW); have ff := Shp.rd_on fb hW; obtain ⟨c0, c1, c2, c3, c4⟩ := kf0 ff; rw [hk] at c0; rw [show ((6 : Nat) : Int) = 6 from rfl] at c0; go_simp; try rfl)
  try simp only [Act.put, List.setIfInBounds_toArray, List.set_cons_zero, List.set_cons_succ]
  refine takeS 7 (some 23) ?va7 (by kernel_rfl) (by kernel_rfl) (by kernel_rfl) (by kernel_rfl) (fun _ _ _ h => h) (by rfl) ?hya7 zd ?resta7
  case hya7 => (intro o ho W hW; simp only [List.getElem?_toArray, List.getElem?_cons_succ, List.getElem?_cons_zero, Option.some.injEq] at ho; subst ho; (try dsimp only at hW); have ff := Shp.rd_on fb hW; obtain ⟨c0, c1, c2, c3, c4⟩ := kf0 ff; rw [hk] at c0; rw [show ((6 : Nat) : Int) = 6 from rfl] at c0; go_simp; try rfl)
  try simp only [Act.put, List.setIfInBounds_toArray, List.set_cons_zero, List.set_cons_succ]
  refine takeS 8 (some 24) (.int .i64 (x.p : Int)) (by kernel_rfl) (by kernel_rfl) (by kernel_rfl) (by kernel_rfl) (fun _ _ _ h => h) (by rfl) ?hya8 zd ?resta8
  case hya8 => (intro o ho W hW; simp only [List.getElem?_toArray, List.getElem?_cons_succ, List.getElem?_cons_zero, Option.some.injEq] at ho; subst ho; (try dsimp only at hW); have ff := Shp.rd_on fb hW; obtain ⟨c0, c1, c2, c3, c4⟩ := kf0 ff; rw [hk] at c0; rw [show ((6 : Nat) : Int) = 6 from rfl] at c0; go_simp; (first | done | rfl | (rw [hwp])))
  try simp only [Act.put, List.setIfInBounds_toArray, List.set_cons_zero, List.set_cons_succ]
  refine nextS 9 (by kernel_rfl) (by rfl) (fun o ho K hK => ?_)
  simp only [List.getElem?_toArray, List.getElem?_cons_succ, List.getElem?_cons_zero, Option.some.injEq] at ho; subst ho
  go_simp
  (go_at_call 73; (with_reducible refine (CI.out _).mono ?_); rintro e v1 ⟨rfl, rfl⟩)
  refine hK.out _ _ zd (fun _ => ?_)
  clear hK K
  try simp only [Act.put, List.setIfInBounds_toArray, List.set_cons_zero, List.set_cons_succ]
  refine nextS 10 (by kernel_rfl) (by rfl) (fun o ho K hK => ?_)
  simp only [List.getElem?_toArray, List.getElem?_cons_succ, List.getElem?_cons_zero, Option.some.injEq] at ho; subst ho
  go_simp
  refine hK.out _ _ (zd.alloc zd.size _) (fun _ => ?_)
  clear hK K
  try simp only [Act.put, List.setIfInBounds_toArray, List.set_cons_zero, List.set_cons_succ]
  refine takeS 11 (some 5) ?vb11 (by kernel_rfl) (by kernel_rfl) (by kernel_rfl) (by kernel_rfl) (fun _ _ _ h => h) (by rfl) ?hyb11 (zd.alloc zd.size _) ?restb11
  case hyb11 => (intro o ho W hW; simp only [List.getElem?_toArray, List.getElem?_cons_succ, List.getElem?_cons_zero, Option.some.injEq] at ho; subst ho; (try dsimp only at hW); skip; go_simp; try rfl)
  try simp only [Act.put, List.setIfInBounds_toArray, List.set_cons_zero, List.set_cons_succ]
  refine wpAnyH_done (by kernel_rfl) ?_ _
  refine NoPanic.normal ?_
  have ho := sown_two W.drew W.heap.size W.heap.size (D.sb [116]) (D.sb (D.dig x.p)) rfl (Nat.le_refl _)
  have zo := zd.alloc zd.size (.cells #[.string (D.sb [116]), .string (D.sb (D.dig x.p))] 9)
  have eL : D.sb [116] = ⟨#[116]⟩ := rfl
  have bo : ∃ V, V = W.drew.alloc (.cells #[.string (D.sb [116]), .string (D.sb (D.dig x.p))] 9) := ⟨_, rfl⟩
  obtain ⟨V, hV⟩ := bo
  rw [← hV] at ho zo
  have uo := UB.on zo
  have u0 := uo.c 0
  have u1 := uo.c 1
  have u2 := uo.c 2
  simp at u0 u1 u2
  obtain ⟨c0, c1, c2, c3, c4⟩ := kf0 (Shp.rd_on fb zo)
  have hV1 : W.drew.alloc (.cells #[.string ⟨#[116]⟩, .string (D.sb (D.dig x.p))] 9) = V := hV.symm
  have hV2 : (W.alloc (.cells #[.string ⟨#[116]⟩, .string (D.sb (D.dig x.p))] 9)).drew = V := hV.symm
  try rw [← hV]
  try rw [hV1]
  try rw [hV2]
  clear hV
  go_wp2_with (first
    | (go_at_call 73; (with_reducible refine (CA.out _).mono ?_); rintro e v2 ⟨rfl, rfl⟩)
    | (at_builtin; (refine sapp _ rfl (.tmp 30) (.tmp 35) rfl rfl (ho.alloc _) rfl (cell_new_at _ _ _ _ (by simp)) (by omega) ?_); intro A3 q3 x3 ho3 hg3; have z3 := (zo.alloc zo.size _).grown hg3 (by have := zo.size; simp; omega) (fun k hk => ho.block_le k hk); have uo := UB.on z3; have u0 := uo.c 0; have u1 := uo.c 1; have u2 := uo.c 2; simp at u0 u1 u2; obtain ⟨c0, c1, c2, c3, c4⟩ := kf0 (Shp.rd_on fb z3))
    | (go_at_call 74; (with_reducible refine (CN.out _).mono ?_); rintro e v3 ⟨rfl, b3⟩; have hn3 := ho3.on b3; have zn3 := below_up z3 z3.size b3; have uo := UB.on zn3; have u0 := uo.c 0; have u1 := uo.c 1; have u2 := uo.c 2; simp at u0 u1 u2; obtain ⟨c0, c1, c2, c3, c4⟩ := kf0 (Shp.rd_on fb zn3))
    | (at_builtin; (refine sapp _ rfl (.tmp 39) (.tmp 43) rfl rfl (hn3.alloc _) rfl (cell_new_at _ _ _ _ (by simp)) (by omega) ?_); intro A4 q4 x4 ho4 hg4; have z4 := (zn3.alloc zn3.size _).grown hg4 (by have := zn3.size; simp; omega) (fun k hk => hn3.block_le k hk); have uo := UB.on z4; have u0 := uo.c 0; have u1 := uo.c 1; have u2 := uo.c 2; simp at u0 u1 u2; obtain ⟨c0, c1, c2, c3, c4⟩ := kf0 (Shp.rd_on fb z4))
    | (go_at_call 75; (with_reducible refine (CT.out _).mono ?_); rintro e v4 ⟨rfl, b4⟩; have ht4 := ho4.on b4; have zt4 := below_up z4 z4.size b4; have uo := UB.on zt4; have u0 := uo.c 0; have u1 := uo.c 1; have u2 := uo.c 2; simp at u0 u1 u2; obtain ⟨c0, c1, c2, c3, c4⟩ := kf0 (Shp.rd_on fb zt4))
    | (at_builtin; (refine sapp _ rfl (.tmp 47) (.tmp 51) rfl rfl (ht4.alloc _) rfl (cell_new_at _ _ _ _ (by simp)) (by omega) ?_); intro A5 q5 x5 ho5 hg5; have z5 := (zt4.alloc zt4.size _).grown hg5 (by have := zt4.size; simp; omega) (fun k hk => ht4.block_le k hk); have uo := UB.on z5; have u0 := uo.c 0; have u1 := uo.c 1; have u2 := uo.c 2; simp at u0 u1 u2; obtain ⟨c0, c1, c2, c3, c4⟩ := kf0 (Shp.rd_on fb z5)))
  obtain ⟨g, hA, hg, hcell⟩ := ho5.at_ (by omega)
  subst hA
  have cJ := kjoin_any g q5 [D.sb [116], D.sb (D.dig x.p), D.sb (D.dig x.a), Nm.ts x.n, D.sb (D.tx x.t)] _ (fun j y hy => hcell j y hy) hg (by simp) (by have := ho5.cap; simp; omega) hns
  go_wp2_with (go_at_call 76; (with_reducible refine Calls.mono cJ ?_); rintro e w9 ⟨rfl, b9⟩)
  go_ret
  exact ⟨rfl, below_up zW zW.size (below_up z5 z5.size b9)⟩
theorem ktext_any (x : D.Ky) (w : World) : Calls Tryz.prog 45 #[.agg (kS.v x)] w fun e w' => e = .returned (.string (D.sb (D.ktx x))) ∧ Below w.heap.size w w' := by
  cases h : D.kright x with
  | false =>
    rw [D.ktx, h]
    exact ktext_no x w h
  | true =>
    have hR := kr_of h
    have i1 : D.ns (D.sb (D.dig x.p)) = D.dig x.p := ns_of (D.dig_lt (by have := hR.p; omega))
    have i2 : D.ns (D.sb (D.dig x.a)) = D.dig x.a := ns_of (D.dig_lt (by have := hR.a; omega))
    have i3 : D.ns (Nm.ts x.n) = Nm.D.txt x.n := ns_of D.ntx_lt
    have i4 : D.ns (D.sb (D.tx x.t)) = D.tx' x.t := ns_of D.tx_lt
    have hk := hR.k
    obtain hk | hk | hk | hk | hk | hk : x.k = 1 ∨ x.k = 2 ∨ x.k = 3 ∨ x.k = 4 ∨ x.k = 5 ∨ x.k = 6 := by omega
    · have e : D.kparts x = [[112], D.dig x.p] := by
        unfold D.kparts
        rw [hk]
        rfl
      have c := ktext_1 x w h hk
      rw [D.ktx, if_pos h, e]
      have i5 : D.ns (D.sb [112]) = [112] := rfl
      simp only [List.map_cons, List.map_nil, i1, i2, i3, i4, i5] at c
      exact c
    · have e : D.kparts x = [[103], D.dig x.p, D.dig x.a] := by
        unfold D.kparts
        rw [hk]
        rfl
      have c := ktext_2 x w h hk
      rw [D.ktx, if_pos h, e]
      have i5 : D.ns (D.sb [103]) = [103] := rfl
      simp only [List.map_cons, List.map_nil, i1, i2, i3, i4, i5] at c
      exact c
    · have e : D.kparts x = [[108], D.dig x.p, D.tx' x.t] := by
        unfold D.kparts
        rw [hk]
        rfl
      have c := ktext_3 x w h hk
      rw [D.ktx, if_pos h, e]
      have i5 : D.ns (D.sb [108]) = [108] := rfl
      simp only [List.map_cons, List.map_nil, i1, i2, i3, i4, i5] at c
      exact c
    · have e : D.kparts x = [[98], D.dig x.p, D.dig x.a] := by
        unfold D.kparts
        rw [hk]
        rfl
      have c := ktext_4 x w h hk
      rw [D.ktx, if_pos h, e]
      have i5 : D.ns (D.sb [98]) = [98] := rfl
      simp only [List.map_cons, List.map_nil, i1, i2, i3, i4, i5] at c
      exact c
    · have e : D.kparts x = [[115], D.dig x.p, D.dig x.a, Nm.D.txt x.n] := by
        unfold D.kparts
        rw [hk]
        rfl
      have c := ktext_5 x w h hk
      rw [D.ktx, if_pos h, e]
      have i5 : D.ns (D.sb [115]) = [115] := rfl
      simp only [List.map_cons, List.map_nil, i1, i2, i3, i4, i5] at c
      exact c
    · have e : D.kparts x = [[116], D.dig x.p, D.dig x.a, Nm.D.txt x.n, D.tx' x.t] := by
        unfold D.kparts
        rw [hk]
        rfl
      have c := ktext_6 x w h hk
      rw [D.ktx, if_pos h, e]
      have i5 : D.ns (D.sb [116]) = [116] := rfl
      simp only [List.map_cons, List.map_nil, i1, i2, i3, i4, i5] at c
      exact c

end Go.Proofs.YteiikacgcfidmaaGreatDoor
