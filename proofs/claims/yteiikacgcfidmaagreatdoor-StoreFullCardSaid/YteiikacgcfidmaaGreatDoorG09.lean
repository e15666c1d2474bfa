/-
  Words for walks with keys: the parts of a key that lies in a block, keys built, parts stored.
  What a kind uses: the program's and the document's; a number below another.
  Which bytes may stand in a name; the name of a text: the program's and the document's.
-/
import Derived.Test.YteiikacgcfidmaaGreatDoorG08
import Derived.Deep.DrawnRows
import Derived.Test.YteiikacgcfidmaaGreatDoorARow
import Derived.Lib.ConvBytes
import Derived.Deep.RegionHeld3
import Derived.Laws.IdiomStrings
set_option linter.unusedVariables false
set_option linter.unusedSimpArgs false
set_option maxRecDepth 100000
namespace Go.Proofs.YteiikacgcfidmaaGreatDoor
open Go.RowKit

theorem add_o (g o j : Nat) : (⟨g, o, none⟩ : Addr).add j = ⟨g, o + j, none⟩ := by simp [Addr.add]
/-- The parts of a key. -/
structure KF (w : World) (g o : Nat) (x : D.Ky) : Prop where
  k : w.cell? ⟨g, o, none⟩ = some (.int .u8 x.k)
  p : w.cell? ⟨g, o + 1, none⟩ = some (.int .u8 x.p)
  a : w.cell? ⟨g, o + 2, none⟩ = some (.int .u8 x.a)
  n : Nm.rd w ⟨g, o + 3, none⟩ = some x.n
  t : rd w ⟨g, o + 15, none⟩ = some x.t
theorem bys_get {l : List Nat} {i : Nat} (h : i < l.length) : (bys l)[i]? = some (.int .u8 ((l.getD i 0 : Nat) : Int)) := by
  simp [bys, List.getElem?_eq_getElem h, List.getD]
theorem kf_of {w : World} {g o : Nat} {x : D.Ky} (h : kS.rd w ⟨g, o, none⟩ = some x) : KF w g o x := by
  have hc : kS.At w ⟨g, o, none⟩ x := Shp.at_of h
  have hx := x.len
  have c : ∀ j u, (bys x.l)[j]? = some u → w.cell? ⟨g, o + j, none⟩ = some u := fun j u hu => by have := hc j u hu; rwa [add_o] at this
  refine ⟨c 0 _ (bys_get (by omega)), c 1 _ (bys_get (by omega)), c 2 _ (bys_get (by omega)), Nm.rd_of fun j u hu => ?_, rd_of fun j u hu => ?_⟩
  · rw [add_o, Nat.add_assoc]
    refine c (3 + j) u ?_
    have hj : j < 12 := by have := (List.getElem?_eq_some_iff.1 hu).1; rwa [bys_len, x.n.len] at this
    rw [show x.n.l = (x.l.drop 3).take 12 from rfl, ← bys_take, ← bys_drop, List.getElem?_take_of_lt hj, List.getElem?_drop] at hu
    exact hu
  · rw [add_o, Nat.add_assoc]
    refine c (15 + j) u ?_
    rw [show x.t.l = x.l.drop 15 from rfl, ← bys_drop, List.getElem?_drop] at hu
    exact hu
theorem kf0 {w : World} {g : Nat} {x : D.Ky} (h : kS.rd w ⟨g, 0, none⟩ = some x) : w.cell? ⟨g, 0, none⟩ = some (.int .u8 x.k) ∧ w.cell? ⟨g, 1, none⟩ = some (.int .u8 x.p) ∧ w.cell? ⟨g, 2, none⟩ = some (.int .u8 x.a) ∧ Nm.rd w ⟨g, 3, none⟩ = some x.n ∧ rd w ⟨g, 15, none⟩ = some x.t := by
  obtain ⟨h1, h2, h3, h4, h5⟩ := kf_of h
  simp only [Nat.zero_add] at h2 h3 h4 h5
  exact ⟨h1, h2, h3, h4, h5⟩
noncomputable def bdk (ps : Array (Nat × Value)) : Sem Value := Instr.build 39 ps
noncomputable def bdr (ps : Array (Nat × Value)) : Sem Value := Instr.build 86 ps
noncomputable def bdp (ps : Array (Nat × Value)) : Sem Value := Instr.build 41 ps
noncomputable def bd25 (ps : Array (Nat × Value)) : Sem Value := Instr.build 159 ps
theorem bd_k (ps : Array (Nat × Value)) : Instr.build 39 ps = bdk ps := rfl
theorem bd_r (ps : Array (Nat × Value)) : Instr.build 86 ps = bdr ps := rfl
theorem bd_p (ps : Array (Nat × Value)) : Instr.build 41 ps = bdp ps := rfl
theorem bd_25 (ps : Array (Nat × Value)) : Instr.build 159 ps = bd25 ps := rfl
theorem kv_mk {k p a : Nat} (n : Nm.D.Nm) (t : D.Tg) (hk : k < 256) (hp : p < 256) (ha : a < 256) : kS.v (D.mkK k p a n t) = ((Value.int .u8 k) :: (Value.int .u8 p) :: (Value.int .u8 a) :: (bys n.l ++ bys t.l)).toArray := by
  show (bys (k % 256 :: p % 256 :: a % 256 :: (n.l ++ t.l))).toArray = _
  rw [Nat.mod_eq_of_lt hk, Nat.mod_eq_of_lt hp, Nat.mod_eq_of_lt ha]
  simp [bys]
theorem run_bdk_z (w : World) : (bdk #[]).run Tryz.prog w = .ok (.agg (kS.v D.zK)) w := by
  simp [bdk, Instr.build, go_sem]
  rfl
theorem run_bdk_1 (w : World) (k : Nat) (hk : k < 256) : (bdk #[(0, .int .u8 (k : Int))]).run Tryz.prog w = .ok (.agg (kS.v (D.mkK k 0 0 Nm.D.zero D.zero))) w := by
  rw [kv_mk _ _ hk (by decide) (by decide)]
  simp [bdk, Instr.build, go_sem]
  rfl
theorem run_bdk_2 (w : World) (k p : Nat) (hk : k < 256) (hp : p < 256) : (bdk #[(0, .int .u8 (k : Int)), (1, .int .u8 (p : Int))]).run Tryz.prog w = .ok (.agg (kS.v (D.mkK k p 0 Nm.D.zero D.zero))) w := by
  rw [kv_mk _ _ hk hp (by decide)]
  simp [bdk, Instr.build, go_sem]
  rfl
theorem run_bdk_3 (w : World) (k p a : Nat) (hk : k < 256) (hp : p < 256) (ha : a < 256) : (bdk #[(0, .int .u8 (k : Int)), (1, .int .u8 (p : Int)), (2, .int .u8 (a : Int))]).run Tryz.prog w = .ok (.agg (kS.v (D.mkK k p a Nm.D.zero D.zero))) w := by
  rw [kv_mk _ _ hk hp ha]
  simp [bdk, Instr.build, go_sem]
  rfl
theorem run_bdk_4 (w : World) (k p a : Nat) (n : Nm.D.Nm) (hk : k < 256) (hp : p < 256) (ha : a < 256) : (bdk #[(0, .int .u8 (k : Int)), (1, .int .u8 (p : Int)), (2, .int .u8 (a : Int)), (3, .agg (Nm.nc n))]).run Tryz.prog w = .ok (.agg (kS.v (D.mkK k p a n D.zero))) w := by
  rw [kv_mk _ _ hk hp ha]
  obtain ⟨b0, b1, b2, b3, b4, b5, b6, b7, b8, b9, b10, b11, hn⟩ := Nm.twelve n
  have : bys n.l = [b0, b1, b2, b3, b4, b5, b6, b7, b8, b9, b10, b11] := by simpa [Nm.nc] using congrArg Array.toList hn
  rw [hn, this]
  simp [bdk, Instr.build, go_sem]
  rfl
/-- The same of a key's own parts. -/
theorem bdk1 (w : World) (x : D.Ky) : (bdk #[(0, .int .u8 (x.k : Int))]).run Tryz.prog w = .ok (.agg (kS.v (D.mkK x.k 0 0 Nm.D.zero D.zero))) w := run_bdk_1 w _ x.k_lt
theorem bdk2 (w : World) (x : D.Ky) : (bdk #[(0, .int .u8 (x.k : Int)), (1, .int .u8 (x.p : Int))]).run Tryz.prog w = .ok (.agg (kS.v (D.mkK x.k x.p 0 Nm.D.zero D.zero))) w := run_bdk_2 w _ _ x.k_lt x.p_lt
theorem bdk3 (w : World) (x : D.Ky) : (bdk #[(0, .int .u8 (x.k : Int)), (1, .int .u8 (x.p : Int)), (2, .int .u8 (x.a : Int))]).run Tryz.prog w = .ok (.agg (kS.v (D.mkK x.k x.p x.a Nm.D.zero D.zero))) w := run_bdk_3 w _ _ _ x.k_lt x.p_lt x.a_lt
theorem bdk4 (w : World) (x : D.Ky) : (bdk #[(0, .int .u8 (x.k : Int)), (1, .int .u8 (x.p : Int)), (2, .int .u8 (x.a : Int)), (3, .agg (Nm.nc x.n))]).run Tryz.prog w = .ok (.agg (kS.v (D.mkK x.k x.p x.a x.n D.zero))) w := run_bdk_4 w _ _ _ _ x.k_lt x.p_lt x.a_lt
theorem run_bdr_z (w : World) : (bdr #[]).run Tryz.prog w = .ok (.agg (rS.v D.zR)) w := by
  simp [bdr, Instr.build, go_sem]
  rfl
/-- Parts stored into a key that was made last. -/
theorem kset_a (k p a : Nat) (n : Nm.D.Nm) (t : D.Tg) (b : Nat) (hb : b < 256) : (kS.v (D.mkK k p a n t)).setIfInBounds 2 (.int .u8 (b : Int)) = kS.v (D.mkK k p b n t) := by
  show Array.setIfInBounds (bys (k % 256 :: p % 256 :: a % 256 :: (n.l ++ t.l))).toArray 2 (Value.int .u8 (b : Int)) = (bys (k % 256 :: p % 256 :: b % 256 :: (n.l ++ t.l))).toArray
  rw [Nat.mod_eq_of_lt hb]
  simp [bys]
theorem run_stn3 (w : World) (g k p a : Nat) (n m : Nm.D.Nm) (t : D.Tg) (ty : TypeId) (h : g = w.heap.size) :
    (Nm.st 33 (.pointer (some ⟨g, 3, none⟩)) (.agg (Nm.nc m))).run Tryz.prog (w.alloc (.cells (kS.v (D.mkK k p a n t)) ty)) = .ok () (w.alloc (.cells (kS.v (D.mkK k p a m t)) ty)) := by
  subst h
  have hs := run_storeCells_at (P := Tryz.prog) w.heap.size 3 ty (bys m.l) 0 (kS.v (D.mkK k p a n t)) (w.alloc (.cells (kS.v (D.mkK k p a n t)) ty)) (heap_alloc_new w _) (by rw [kS.v_size, bys_len, m.len]; decide) (bys_one m.l)
  have e : ((kS.v (D.mkK k p a n t)).toList.take (3 + 0) ++ bys m.l ++ (kS.v (D.mkK k p a n t)).toList.drop (3 + 0 + (bys m.l).length)).toArray = kS.v (D.mkK k p a m t) := by
    rw [bys_len, m.len]
    show ((bys (k % 256 :: p % 256 :: a % 256 :: (n.l ++ t.l))).take 3 ++ bys m.l ++ (bys (k % 256 :: p % 256 :: a % 256 :: (n.l ++ t.l))).drop 15).toArray = (bys (k % 256 :: p % 256 :: a % 256 :: (m.l ++ t.l))).toArray
    rw [bys_drop, show (k % 256 :: p % 256 :: a % 256 :: (n.l ++ t.l)).drop 15 = (n.l ++ t.l).drop 12 from rfl, show 12 = n.l.length from n.len.symm, List.drop_left]
    simp [bys]
  rw [e, setRow_alloc _ _ _ _ _ rfl] at hs
  simp only [Nm.st, Instr.storeAt, Instr.sureAddr, Sem.run_bind, Sem.run_pure, Result.andThen_ok]
  have hi : (Tryz.prog.info? 33).map (·.size) = some 12 := by kernel_rfl
  cases hq : Tryz.prog.info? 33 with
  | none => simp [hq] at hi
  | some i =>
    have hsz : i.size = 12 := by simpa [hq] using hi
    simp [storeVar, sizeOf, typeInfo, hq, Value.cells, Nm.nc_size, hsz]
    exact hs
theorem run_stt15 (w : World) (g k p a : Nat) (n : Nm.D.Nm) (t m : D.Tg) (ty : TypeId) (h : g = w.heap.size) :
    (st 37 (.pointer (some ⟨g, 15, none⟩)) (.agg (nc m))).run Tryz.prog (w.alloc (.cells (kS.v (D.mkK k p a n t)) ty)) = .ok () (w.alloc (.cells (kS.v (D.mkK k p a n m)) ty)) := by
  subst h
  have hs := run_storeCells_at (P := Tryz.prog) w.heap.size 15 ty (bys m.l) 0 (kS.v (D.mkK k p a n t)) (w.alloc (.cells (kS.v (D.mkK k p a n t)) ty)) (heap_alloc_new w _) (by rw [kS.v_size, bys_len, m.len]; decide) (bys_one m.l)
  have e : ((kS.v (D.mkK k p a n t)).toList.take (15 + 0) ++ bys m.l ++ (kS.v (D.mkK k p a n t)).toList.drop (15 + 0 + (bys m.l).length)).toArray = kS.v (D.mkK k p a n m) := by
    rw [bys_len, m.len]
    show ((bys (k % 256 :: p % 256 :: a % 256 :: (n.l ++ t.l))).take 15 ++ bys m.l ++ (bys (k % 256 :: p % 256 :: a % 256 :: (n.l ++ t.l))).drop 25).toArray = (bys (k % 256 :: p % 256 :: a % 256 :: (n.l ++ m.l))).toArray
    have h1 : (k % 256 :: p % 256 :: a % 256 :: (n.l ++ t.l)).take 15 = k % 256 :: p % 256 :: a % 256 :: n.l := by
      show k % 256 :: p % 256 :: a % 256 :: (n.l ++ t.l).take 12 = _
      rw [show 12 = n.l.length from n.len.symm, List.take_left]
    rw [bys_take, h1, bys_drop, List.drop_of_length_le (by simp [n.len, t.len])]
    simp [bys]
  rw [e, setRow_alloc _ _ _ _ _ rfl] at hs
  simp only [st, Instr.storeAt, Instr.sureAddr, Sem.run_bind, Sem.run_pure, Result.andThen_ok]
  have hi : (Tryz.prog.info? 37).map (·.size) = some 10 := by kernel_rfl
  cases hq : Tryz.prog.info? 37 with
  | none => simp [hq] at hi
  | some i =>
    have hsz : i.size = 10 := by simpa [hq] using hi
    simp [storeVar, sizeOf, typeInfo, hq, Value.cells, nc_size, hsz]
    exact hs
theorem below_up {B : Nat} {w0 w w' : World} (h : Below B w0 w) (hs : B ≤ w.heap.size) (hb : Below w.heap.size w w') : Below B w0 w' := h.trans (hb.mono hs)
/-- The zero values' cells. -/
abbrev z25 : Array Value := #[.int .u8 0, .int .u8 0, .int .u8 0, .int .u8 0, .int .u8 0, .int .u8 0, .int .u8 0, .int .u8 0, .int .u8 0, .int .u8 0, .int .u8 0, .int .u8 0, .int .u8 0, .int .u8 0, .int .u8 0, .int .u8 0, .int .u8 0, .int .u8 0, .int .u8 0, .int .u8 0, .int .u8 0, .int .u8 0, .int .u8 0, .int .u8 0, .int .u8 0]
theorem kz : kS.v D.zK = z25 := rfl
end Go.Proofs.YteiikacgcfidmaaGreatDoor
set_option linter.unusedVariables false
set_option linter.unusedSimpArgs false
set_option maxRecDepth 100000
namespace Go.Proofs.YteiikacgcfidmaaGreatDoor
open Go.RowKit
attribute [local go_sem ↓] Go.wp_at_zero Go.wp_at_succ

def usev (k : Int) : Array Value := #[.int .i64 (D.ats k : Int), .bool (D.nmd k), .bool (D.tgd k)]
theorem isk (k : Int) : (1 ≤ k ∧ k ≤ 6) ↔ k = 1 ∨ k = 2 ∨ k = 3 ∨ k = 4 ∨ k = 5 ∨ k = 6 := by omega
theorem uses_none {k : Int} (h : ¬ (1 ≤ k ∧ k ≤ 6)) : D.ats k = 0 ∧ D.nmd k = false ∧ D.tgd k = false := by
  refine ⟨?_, ?_, ?_⟩
  · unfold D.ats; rw [if_neg (by omega), if_neg (by omega)]
  · unfold D.nmd; exact decide_eq_false (by omega)
  · unfold D.tgd; exact decide_eq_false (by omega)
theorem usev_none {k : Int} (h : ¬ (1 ≤ k ∧ k ≤ 6)) : usev k = #[.int .i64 0, .bool false, .bool false] := by
  obtain ⟨h1, h2, h3⟩ := uses_none h
  unfold usev; rw [h1, h2, h3]; rfl
set_option maxHeartbeats 2000000 in
theorem useOf_any (k : Int) (w : World) : Calls Tryz.prog 67 #[.int .i64 k] w fun e w' => e = .returned (.tuple #[.agg (usev k), .bool (decide (1 ≤ k ∧ k ≤ 6))]) ∧ Below w.heap.size w w' := by
  by_cases h : 1 ≤ k ∧ k ≤ 6
  · rcases (isk k).1 h with rfl | rfl | rfl | rfl | rfl | rfl
    · go_enter Tryz.func67, Tryz.ntmps67
      go_wp2
      exact bodyPost_ret (v := .tuple #[.agg #[.int .i64 0, .bool false, .bool false], .bool true]) (by simp [results, Tryz.results67, go_sem, *]) rfl ⟨by rfl, below_alloc_ _ _⟩
    · go_enter Tryz.func67, Tryz.ntmps67
      go_wp2
      exact bodyPost_ret (v := .tuple #[.agg #[.int .i64 16, .bool false, .bool false], .bool true]) (by simp [results, Tryz.results67, go_sem, *]) rfl ⟨by rfl, below_alloc_ _ _⟩
    · go_enter Tryz.func67, Tryz.ntmps67
      go_wp2
      exact bodyPost_ret (v := .tuple #[.agg #[.int .i64 0, .bool false, .bool true], .bool true]) (by simp [results, Tryz.results67, go_sem, *]) rfl ⟨by rfl, below_alloc_ _ _⟩
    · go_enter Tryz.func67, Tryz.ntmps67
      go_wp2
      exact bodyPost_ret (v := .tuple #[.agg #[.int .i64 4, .bool false, .bool false], .bool true]) (by simp [results, Tryz.results67, go_sem, *]) rfl ⟨by rfl, below_alloc_ _ _⟩
    · go_enter Tryz.func67, Tryz.ntmps67
      go_wp2
      exact bodyPost_ret (v := .tuple #[.agg #[.int .i64 4, .bool true, .bool false], .bool true]) (by simp [results, Tryz.results67, go_sem, *]) rfl ⟨by rfl, below_alloc_ _ _⟩
    · go_enter Tryz.func67, Tryz.ntmps67
      go_wp2
      exact bodyPost_ret (v := .tuple #[.agg #[.int .i64 4, .bool true, .bool true], .bool true]) (by simp [results, Tryz.results67, go_sem, *]) rfl ⟨by rfl, below_alloc_ _ _⟩
  · obtain ⟨h1, h2, h3⟩ := uses_none h
    have g1 : ¬ k = 1 := by omega
    have g2 : ¬ k = 2 := by omega
    have g3 : ¬ k = 3 := by omega
    have g4 : ¬ k = 4 := by omega
    have g5 : ¬ k = 5 := by omega
    have g6 : ¬ k = 6 := by omega
    have e : usev k = #[.int .i64 0, .bool false, .bool false] := by unfold usev; rw [h1, h2, h3]; rfl
    rw [e, decide_eq_false h]
    clear e h1 h2 h3 h
    go_enter Tryz.func67, Tryz.ntmps67
    go_wp2
    exact bodyPost_ret (v := .tuple #[.agg #[.int .i64 0, .bool false, .bool false], .bool false]) (by simp [results, Tryz.results67, go_sem, *]) rfl ⟨by rfl, below_alloc_ _ _⟩
theorem below_num (n m : Int) (w : World) : Calls Tryz.prog 110 #[.int .i64 n, .int .i64 m] w fun e w' => e = .returned (.bool (decide (0 ≤ n ∧ n < m))) ∧ w = w' := by
  by_cases h : 0 ≤ n
  · by_cases h2 : n < m
    · rw [decide_eq_true ⟨h, h2⟩]
      go_enter Tryz.func110, Tryz.ntmps110
      go_wp2
      go_ret
      exact ⟨by rfl, by rfl⟩
    · rw [decide_eq_false (by omega)]
      have h3 : m ≤ n := by omega
      go_enter Tryz.func110, Tryz.ntmps110
      go_wp2
      go_ret
      exact ⟨by rfl, by rfl⟩
  · rw [decide_eq_false (by omega)]
    have h3 : n < 0 := by omega
    go_enter Tryz.func110, Tryz.ntmps110
    go_wp2
    go_ret
    exact ⟨by rfl, by rfl⟩
end Go.Proofs.YteiikacgcfidmaaGreatDoor
set_option linter.unusedVariables false
set_option linter.unusedSimpArgs false
set_option maxRecDepth 100000
namespace Go.Proofs.YteiikacgcfidmaaGreatDoor.Nm
open Go.RowKit
attribute [local go_sem ↓] Go.wp_at_zero Go.wp_at_succ ld_a ld_n st_a st_n eq_a eq_n ne_a ne_n lv_a lv_n
attribute [local go_sem] run_ld_a run_ld_n run_st_n run_eq_a run_eq_n run_ne_a run_ne_n run_lv_a run_lv_n st_z ne_z rd_new rd_old rd_drew rd_drewN

theorem letter_any (c : Nat) (w : World) : Calls Tryz.prog 103 #[.int .u8 c] w fun e w' => e = .returned (.bool (D.letB c)) ∧ w = w' := by
  go_enter Tryz.func103, Tryz.ntmps103
  go_wp2
  all_goals
    go_ret
    refine ⟨bool_of ?_, rfl⟩
    unfold D.letB
    rw [Bool.eq_iff_iff]
    simp
    omega
theorem may_any (c : Nat) (w : World) : Calls Tryz.prog 104 #[.int .u8 c] w fun e w' => e = .returned (.bool (D.mayB c)) ∧ w = w' := by
  have H := Lib.hid (letter_any c)
  obtain ⟨b, hb⟩ : ∃ b, D.letB c = b := ⟨_, rfl⟩
  rw [hb] at H
  have HB := Lib.hid hb
  clear hb
  cases b
  all_goals
    go_enter Tryz.func104, Tryz.ntmps104
    go_wp2_with (go_at_call 103; (with_reducible refine (H.out _).mono ?_); rintro e w' ⟨rfl, rfl⟩)
    all_goals
      go_ret
      refine ⟨bool_of ?_, rfl⟩
      unfold D.mayB
      rw [HB.out, Bool.eq_iff_iff]
      simp
      try omega

/-- So far each byte may stand. -/
structure Fine (t : List Nat) (k : Nat) : Prop where
  out : ∀ i b, i < k → t[i]? = some b → D.mayB b = true
theorem fine_first (t : List Nat) : Fine t 0 := ⟨fun i b h => absurd h (by omega)⟩
theorem fine_next {t : List Nat} {k b : Nat} (h : Fine t k) (hb : t[k]? = some b) (hm : D.mayB b = true) : Fine t (k + 1) := ⟨fun i c hi hc => by
  by_cases e : i = k
  · subst e
    rw [hb] at hc
    injection hc with hc
    subst hc
    exact hm
  · exact h.out i c (by omega) hc⟩
theorem fine_all {t : List Nat} {k : Nat} (h : Fine t k) (hk : t.length ≤ k) (h1 : 1 ≤ t.length) (h2 : t.length ≤ 12) (hl : D.letB (t.getD 0 0) = true) : D.isB t = true :=
  D.isB_iff.2 ⟨h1, h2, hl, fun c hc => by
    obtain ⟨i, hi, e⟩ := List.getElem_of_mem hc
    exact h.out i c (by omega) (by rw [List.getElem?_eq_getElem hi, e])⟩
theorem not_fine {t : List Nat} {k b : Nat} (hb : t[k]? = some b) (hm : D.mayB b = false) : D.isB t = false := by
  cases h : D.isB t
  · rfl
  · have := (D.isB_iff.1 h).2.2.2 b (List.mem_of_getElem? hb)
    rw [hm] at this; cases this

/-- What the conversion of a text to bytes lays. -/
theorem row_of_text (w : World) (s : ByteArray) (cap : Nat) (t : TypeId) (fr : Nat × Nat) : Row (w.alloc (.cells (bytesRow s cap) t fr)) (some ⟨w.heap.size, 0, none⟩) s.size (bys (D.ns s)) :=
  ⟨by rw [bys_len, D.ns_len], fun _ => ⟨_, rfl, by simp, fun j u hu => by
    have hj : j < s.data.size := by
      have := (List.getElem?_eq_some_iff.1 hu).1
      rw [bys_len, D.ns_len] at this
      exact this
    rw [World.news_of_block (heap_alloc_new w _) j u]
    rw [Array.getElem?_toList, bytesRow_at s cap j hj]
    simp [bys, D.ns] at hu
    obtain ⟨a, ha, rfl⟩ := hu
    have : s.data[j]? = some s.data[j] := Array.getElem?_eq_getElem hj
    rw [this] at ha
    injection ha with ha
    rw [ha]⟩⟩
theorem ns_at {s : ByteArray} {k : Nat} (h : k < s.size) : (D.ns s)[k]? = some (s[k].toNat) := by
  simp [D.ns]
  exact ⟨s[k], by rw [Array.getElem?_eq_getElem (by exact h)]; rfl, rfl⟩
def pcs (t : List Nat) (k : Nat) : Array Value := (bys (D.padl t k)).toArray
theorem pcs_zero (t : List Nat) : pcs t 0 = z12 := by rw [pcs, D.padl_zero]; rfl
theorem pcs_size (t : List Nat) (k : Nat) : (pcs t k).size = 12 := by simp [pcs, bys_len, D.padl_len]
theorem pcs_next {t : List Nat} {k b : Nat} (hb : t[k]? = some b) (hk : k < 12) : (pcs t k).setIfInBounds k (.int .u8 b) = pcs t (k + 1) := by
  rw [pcs, pcs, ← D.padl_next hb hk, bys, bys, List.setIfInBounds_toArray, List.map_set]
theorem pcs_end (s : ByteArray) (h : s.size ≤ 12) : pcs (D.ns s) s.size = nc (D.pad s) := by
  have := D.padl_all (t := D.ns s) 12 (by rw [D.ns_len]; exact h)
  rw [D.ns_len] at this
  rw [pcs, nc, D.pad, D.padN]
  simp only
  rw [this]

theorem bel_grown {w0 w w' : World} {g : Nat} (h : Below w0.heap.size w0 w) (hg : w.grownBy w' (some g)) (hge : w0.heap.size ≤ g) : Below w0.heap.size w0 w' :=
  h.grown hg h.size fun k hk => by injection hk with hk; omega
set_option maxHeartbeats 1000000 in
/-- The name of a text that is one. -/
theorem parse_yes (s : ByteArray) (w : World) (h : D.isB (D.ns s) = true) :
    Calls Tryz.prog 70 #[.string s] w fun e w' => e = .returned (.tuple #[.agg (nc (D.pad s)), .int .i64 0]) ∧ Below w.heap.size w w' := by
  obtain ⟨h1, h2, h3, h4⟩ := D.isB_iff.1 h
  rw [D.ns_len] at h1 h2
  have hl : D.letB (s[0].toNat) = true := by
    have := ns_at (s := s) (k := 0) (by omega)
    rwa [List.getD, this] at h3
  have H := Lib.hid (fun w => letter_any (s[0].toNat) w)
  rw [hl] at H
  have H4 : Kept (∀ c ∈ D.ns s, D.mayB c = true) := ⟨h4⟩
  clear h3 hl h h4
  have hcv := fun W => run_bytes_of_string (P := Tryz.prog) W 9 71 5 s Tryz.underlying9 Tryz.underlying71 Tryz.underlying5
  have c1 : ((s.size : Int) == 0) = false := by rw [beq_eq_false_iff_ne]; omega
  have c2 : decide ((12 : Int) < (s.size : Int)) = false := decide_eq_false (by omega)
  have c3 : ¬ s = ByteArray.empty := by rintro rfl; simp at h1
  go_enter Tryz.func70, Tryz.ntmps70
  go_wp2_with (go_at_call 103; (with_reducible refine (H.out _).mono ?_); rintro e w' ⟨rfl, rfl⟩)
  clear hcv c1 c2 c3
  go_loopw [25] (fun i wr => ∃ k : Nat, k ≤ s.size ∧ i = .int .i64 k ∧ Blk wr w.heap.size 33 z12 ∧ Blk wr (w.heap.size + 1) 33 (pcs (D.ns s) k) ∧ Row wr (some ⟨w.heap.size + 2, 0, none⟩) s.size (bys (D.ns s)) ∧ Below w.heap.size w wr) (fun i _ => s.size - (intOf i).toNat)
  case atStart =>
    refine ⟨0, Nat.zero_le _, rfl, ?_, ?_, ?_, ?_⟩
    · exact (((Blk.new w _ z12).alloc _).drew).alloc _
    · rw [pcs_zero]
      have := Blk.new (w.alloc (.cells z12 33)) 33 z12
      simp only [World.size_alloc] at this
      exact this.drew.alloc _
    · have := row_of_text ((w.alloc (.cells z12 33)).alloc (.cells z12 33)).drew s
      simp only [World.size_drew, World.size_alloc] at this
      exact this _ _ _
    · exact ((((Below.refl _ _).alloc (Nat.le_refl _) _).alloc (by simp) _).drew).alloc (by simp; omega) _
  case round =>
    obtain ⟨k, hk, rfl, B0, B1, R, hbel⟩ := hrel
    by_cases hlt : k < s.size
    · obtain ⟨b, hb, hbm⟩ := at_lt (l := D.ns s) (i := k) (by rw [D.ns_len]; exact hlt)
      have hm := H4.out b hbm
      have HM := Lib.hid (fun w => may_any b w)
      rw [hm] at HM
      obtain ⟨ad, e, cx⟩ := R.cell (bys_at hb)
      injection e with e
      subst e
      have hbn := B1.put k (.int .u8 b)
      rw [pcs_next hb (by omega)] at hbn
      have hcs : ∃ v, wr.cell? ⟨w.heap.size + 1, k, none⟩ = some v := by
        rw [B1.c]
        exact ⟨_, Array.getElem?_eq_getElem (by rw [pcs_size]; omega)⟩
      obtain ⟨v0, hc⟩ := hcs
      have hf := B1.f k
      have hb0 := B0.far (p := ⟨w.heap.size + 1, k, none⟩) (by simp) (.int .u8 b)
      have hR : Row (wr.setCell ⟨w.heap.size + 1, k, none⟩ (.int .u8 b)) (some ⟨w.heap.size + 2, 0, none⟩) s.size (bys (D.ns s)) := by
        refine ⟨R.len, fun hn => ?_⟩
        obtain ⟨ad, e, hl, hc⟩ := R.tow hn
        injection e with e
        subst e
        refine ⟨_, rfl, by simpa [World.setCell] using hl, fun j u hu => ?_⟩
        rw [← hc j u hu]
        exact World.cell?_of_block (w := wr) (by rw [block_of_add]; exact Below.heap_setCell _ _ _ _ (by simp))
      have i1 : (k : Int) < (s.size : Int) := by omega
      have i2 : (k : Int) < 12 := by omega
      simp only [Addr.add_lit, Nat.zero_add] at cx
      clear hb hm B1 R B0
      go_wp2_with (go_at_call 104; (with_reducible refine (HM.out _).mono ?_); rintro e w' ⟨rfl, rfl⟩)
      go_roundw
      case rel => exact ⟨k + 1, by omega, by go_num, hb0, hbn, hR, hbel.setCell (by simp) _⟩
      case measure => simp [intOf]; omega
    · have e : k = s.size := by omega
      subst e
      rw [pcs_end s h2] at B1
      have hx := rd_blk B1
      obtain ⟨w9, hst, B9, hg9⟩ := st_blk (.inr rfl) B0 rfl (D.pad s)
      have h9 := rd_blk B9
      clear B0 B1 R B9
      go_wp2
      refine bodyPost_ret (v := .tuple #[.agg (nc (D.pad s)), .int .i64 0]) (by rw [results_cell_tmp rfl]; simp [asAddr, Result.andThen, lv_of h9]) rfl ⟨rfl, bel_grown hbel hg9 (Nat.le_refl _)⟩

set_option maxHeartbeats 1000000 in
/-- The name of a text that begins as none. -/
theorem parse_short (s : ByteArray) (w : World) (h : s.size = 0 ∨ 12 < s.size) :
    Calls Tryz.prog 70 #[.string s] w fun e w' => e = .returned (.tuple #[.agg (nc D.zero), .int .i64 15]) ∧ Below w.heap.size w w' := by
  have B0 : Blk ((w.alloc (.cells z12 33)).alloc (.cells z12 33)) w.heap.size 33 z12 := (Blk.new w _ z12).alloc _
  obtain ⟨w9, hst, B9, hg9⟩ := st_blk (.inr rfl) B0 rfl D.zero
  have h9 := rd_blk B9
  have hb9 := bel_grown (((Below.refl w.heap.size w).alloc (Nat.le_refl _) (.cells z12 33)).alloc (by simp) (.cells z12 33)) hg9 (Nat.le_refl _)
  clear B0 B9 hg9
  rcases h with h | h
  · obtain rfl : s = ByteArray.empty := ByteArray.ext (Array.eq_empty_of_size_eq_zero h)
    clear h
    go_enter Tryz.func70, Tryz.ntmps70
    go_wp2
    refine bodyPost_ret (v := .tuple #[.agg (nc D.zero), .int .i64 15]) (by rw [results_cell_tmp rfl]; simp [asAddr, Result.andThen, lv_of h9]) rfl ⟨rfl, hb9⟩
  · have c1 : ((s.size : Int) == 0) = false := by rw [beq_eq_false_iff_ne]; omega
    have c2 : decide ((12 : Int) < (s.size : Int)) = true := decide_eq_true (by omega)
    have c3 : ¬ s = ByteArray.empty := by rintro rfl; simp at h
    go_enter Tryz.func70, Tryz.ntmps70
    go_wp2
    refine bodyPost_ret (v := .tuple #[.agg (nc D.zero), .int .i64 15]) (by rw [results_cell_tmp rfl]; simp [asAddr, Result.andThen, lv_of h9]) rfl ⟨rfl, hb9⟩
set_option maxHeartbeats 1000000 in
theorem parse_first (s : ByteArray) (w : World) (h1 : 1 ≤ s.size) (h2 : s.size ≤ 12) (hl : D.letB (s[0].toNat) = false) :
    Calls Tryz.prog 70 #[.string s] w fun e w' => e = .returned (.tuple #[.agg (nc D.zero), .int .i64 15]) ∧ Below w.heap.size w w' := by
  have B0 : Blk ((w.alloc (.cells z12 33)).alloc (.cells z12 33)) w.heap.size 33 z12 := (Blk.new w _ z12).alloc _
  obtain ⟨w9, hst, B9, hg9⟩ := st_blk (.inr rfl) B0 rfl D.zero
  have h9 := rd_blk B9
  have hb9 := bel_grown (((Below.refl w.heap.size w).alloc (Nat.le_refl _) (.cells z12 33)).alloc (by simp) (.cells z12 33)) hg9 (Nat.le_refl _)
  clear B0 B9 hg9
  have H := Lib.hid (fun w => letter_any (s[0].toNat) w)
  rw [hl] at H
  clear hl
  have c1 : ((s.size : Int) == 0) = false := by rw [beq_eq_false_iff_ne]; omega
  have c2 : decide ((12 : Int) < (s.size : Int)) = false := decide_eq_false (by omega)
  have c3 : ¬ s = ByteArray.empty := by rintro rfl; simp at h1
  go_enter Tryz.func70, Tryz.ntmps70
  go_wp2_with (go_at_call 103; (with_reducible refine (H.out _).mono ?_); rintro e w' ⟨rfl, rfl⟩)
  refine bodyPost_ret (v := .tuple #[.agg (nc D.zero), .int .i64 15]) (by rw [results_cell_tmp rfl]; simp [asAddr, Result.andThen, lv_of h9]) rfl ⟨rfl, hb9⟩
set_option maxHeartbeats 1000000 in
theorem parse_later (s : ByteArray) (w : World) (h1 : 1 ≤ s.size) (h2 : s.size ≤ 12) (hl : D.letB (s[0].toNat) = true) (h4 : Kept (¬ ∀ c ∈ D.ns s, D.mayB c = true)) :
    Calls Tryz.prog 70 #[.string s] w fun e w' => e = .returned (.tuple #[.agg (nc D.zero), .int .i64 15]) ∧ Below w.heap.size w w' := by
  have H := Lib.hid (fun w => letter_any (s[0].toNat) w)
  rw [hl] at H
  clear hl
  have hcv := fun W => run_bytes_of_string (P := Tryz.prog) W 9 71 5 s Tryz.underlying9 Tryz.underlying71 Tryz.underlying5
  have c1 : ((s.size : Int) == 0) = false := by rw [beq_eq_false_iff_ne]; omega
  have c2 : decide ((12 : Int) < (s.size : Int)) = false := decide_eq_false (by omega)
  have c3 : ¬ s = ByteArray.empty := by rintro rfl; simp at h1
  go_enter Tryz.func70, Tryz.ntmps70
  go_wp2_with (go_at_call 103; (with_reducible refine (H.out _).mono ?_); rintro e w' ⟨rfl, rfl⟩)
  clear hcv c1 c2 c3
  go_loopw [25] (fun i wr => ∃ k : Nat, k ≤ s.size ∧ i = .int .i64 k ∧ Blk wr w.heap.size 33 z12 ∧ Blk wr (w.heap.size + 1) 33 (pcs (D.ns s) k) ∧ Row wr (some ⟨w.heap.size + 2, 0, none⟩) s.size (bys (D.ns s)) ∧ Fine (D.ns s) k ∧ Below w.heap.size w wr) (fun i _ => s.size - (intOf i).toNat)
  case atStart =>
    refine ⟨0, Nat.zero_le _, rfl, ?_, ?_, ?_, fine_first _, ?_⟩
    · exact (((Blk.new w _ z12).alloc _).drew).alloc _
    · rw [pcs_zero]
      have := Blk.new (w.alloc (.cells z12 33)) 33 z12
      simp only [World.size_alloc] at this
      exact this.drew.alloc _
    · have := row_of_text ((w.alloc (.cells z12 33)).alloc (.cells z12 33)).drew s
      simp only [World.size_drew, World.size_alloc] at this
      exact this _ _ _
    · exact ((((Below.refl _ _).alloc (Nat.le_refl _) _).alloc (by simp) _).drew).alloc (by simp; omega) _
  case round =>
    obtain ⟨k, hk, rfl, B0, B1, R, HF, hbel⟩ := hrel
    by_cases hlt : k < s.size
    · obtain ⟨b, hb, hbm⟩ := at_lt (l := D.ns s) (i := k) (by rw [D.ns_len]; exact hlt)
      obtain ⟨ad, e, cx⟩ := R.cell (bys_at hb)
      injection e with e
      subst e
      simp only [Addr.add_lit, Nat.zero_add] at cx
      have i1 : (k : Int) < (s.size : Int) := by omega
      have i2 : (k : Int) < 12 := by omega
      by_cases hm : D.mayB b = true
      · have HM := Lib.hid (fun w => may_any b w)
        rw [hm] at HM
        have HN := fine_next HF hb hm
        have hbn := B1.put k (.int .u8 b)
        rw [pcs_next hb (by omega)] at hbn
        have hcs : ∃ v, wr.cell? ⟨w.heap.size + 1, k, none⟩ = some v := by
          rw [B1.c]
          exact ⟨_, Array.getElem?_eq_getElem (by rw [pcs_size]; omega)⟩
        obtain ⟨v0, hc⟩ := hcs
        have hf := B1.f k
        have hb0 := B0.far (p := ⟨w.heap.size + 1, k, none⟩) (by simp) (.int .u8 b)
        have hR : Row (wr.setCell ⟨w.heap.size + 1, k, none⟩ (.int .u8 b)) (some ⟨w.heap.size + 2, 0, none⟩) s.size (bys (D.ns s)) := by
          refine ⟨R.len, fun hn => ?_⟩
          obtain ⟨ad, e, hl, hc⟩ := R.tow hn
          injection e with e
          subst e
          refine ⟨_, rfl, by simpa [World.setCell] using hl, fun j u hu => ?_⟩
          rw [← hc j u hu]
          exact World.cell?_of_block (w := wr) (by rw [block_of_add]; exact Below.heap_setCell _ _ _ _ (by simp))
        clear hb hm B1 R B0
        go_wp2_with (go_at_call 104; (with_reducible refine (HM.out _).mono ?_); rintro e w' ⟨rfl, rfl⟩)
        go_roundw
        case rel => exact ⟨k + 1, by omega, by go_num, hb0, hbn, hR, HN, hbel.setCell (by simp) _⟩
        case measure => simp [intOf]; omega
      · have hm' : D.mayB b = false := by simpa using hm
        have HM := Lib.hid (fun w => may_any b w)
        rw [hm'] at HM
        obtain ⟨w9, hst, B9, hg9⟩ := st_blk (.inr rfl) B0 rfl D.zero
        have h9 := rd_blk B9
        clear hb hm hm' B1 R B0
        go_wp2_with (go_at_call 104; (with_reducible refine (HM.out _).mono ?_); rintro e w' ⟨rfl, rfl⟩)
        refine bodyPost_ret (v := .tuple #[.agg (nc D.zero), .int .i64 15]) (by rw [results_cell_tmp rfl]; simp [asAddr, Result.andThen, lv_of h9]) rfl ⟨rfl, bel_grown hbel hg9 (Nat.le_refl _)⟩
    · exact absurd (fun c hc => by
        obtain ⟨i, hi, e⟩ := List.getElem_of_mem hc
        exact HF.out i c (by have := D.ns_len s; omega) (by rw [List.getElem?_eq_getElem hi, e])) h4.out
/-- The name of a text that is none. -/
theorem parse_no (s : ByteArray) (w : World) (h : D.isB (D.ns s) = false) :
    Calls Tryz.prog 70 #[.string s] w fun e w' => e = .returned (.tuple #[.agg (nc D.zero), .int .i64 15]) ∧ Below w.heap.size w w' := by
  by_cases h1 : s.size = 0 ∨ 12 < s.size
  · exact parse_short s w h1
  · have h1' : 1 ≤ s.size := by omega
    have h2 : s.size ≤ 12 := by omega
    have h3 : D.letB ((D.ns s).getD 0 0) = D.letB (s[0].toNat) := by
      have := ns_at (s := s) (k := 0) (by omega)
      rw [List.getD, this]; rfl
    cases hl : D.letB (s[0].toNat)
    · exact parse_first s w h1' h2 hl
    · exact parse_later s w h1' h2 hl ⟨fun h4 => by
        have : D.isB (D.ns s) = true := D.isB_iff.2 ⟨by rw [D.ns_len]; exact h1', by rw [D.ns_len]; exact h2, by rw [h3, hl], h4⟩
        rw [this] at h; cases h⟩
end Go.Proofs.YteiikacgcfidmaaGreatDoor.Nm
