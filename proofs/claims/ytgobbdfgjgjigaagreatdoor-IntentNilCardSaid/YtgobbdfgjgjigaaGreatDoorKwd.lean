/-
  Words for walks with keys: the parts of a key that lies in a block, keys built, parts stored.
-/
import Derived.Test.YtgobbdfgjgjigaaGreatDoorKmy
set_option linter.unusedVariables false
set_option linter.unusedSimpArgs false
set_option maxRecDepth 100000
namespace Go.Proofs.YtgobbdfgjgjigaaGreatDoor
open Go.RowKit

theorem add_o (g o j : Nat) : (⟨g, o, none⟩ : Addr).add j = ⟨g, o + j, none⟩ := by simp [Addr.add]
/-- The parts of a key. -/
structure KF (w : World) (g o : Nat) (x : D.Ky) : Prop where
  k : w.cell? ⟨g, o, none⟩ = some (.int .u8 x.k)
  p : w.cell? ⟨g, o + 1, none⟩ = some (.int .u8 x.p)
  a : w.cell? ⟨g, o + 2, none⟩ = some (.int .u8 x.a)
  n : Nm.rd w ⟨g, o + 3, none⟩ = some x.n
  t : rd w ⟨g, o + 15, none⟩ = some x.t
theorem bys_get {l : List Nat} {i : Nat} (h : i < l.length) : (bys l)[i]? = some (.int .u8 ((l.getD i 0 : Nat) : Int)) := by
  simp [bys, List.getElem?_eq_getElem h, List.getD]
theorem kf_of {w : World} {g o : Nat} {x : D.Ky} (h : kS.rd w ⟨g, o, none⟩ = some x) : KF w g o x := by
  have hc : kS.At w ⟨g, o, none⟩ x := Shp.at_of h
  have hx := x.len
  have c : ∀ j u, (bys x.l)[j]? = some u → w.cell? ⟨g, o + j, none⟩ = some u := fun j u hu => by have := hc j u hu; rwa [add_o] at this
  refine ⟨c 0 _ (bys_get (by omega)), c 1 _ (bys_get (by omega)), c 2 _ (bys_get (by omega)), Nm.rd_of fun j u hu => ?_, rd_of fun j u hu => ?_⟩
  · rw [add_o, Nat.add_assoc]
    refine c (3 + j) u ?_
    have hj : j < 12 := by have := (List.getElem?_eq_some_iff.1 hu).1; rwa [bys_len, x.n.len] at this
    rw [show x.n.l = (x.l.drop 3).take 12 from rfl, ← bys_take, ← bys_drop, List.getElem?_take_of_lt hj, List.getElem?_drop] at hu
    exact hu
  · rw [add_o, Nat.add_assoc]
    refine c (15 + j) u ?_
    rw [show x.t.l = x.l.drop 15 from rfl, ← bys_drop, List.getElem?_drop] at hu
    exact hu
theorem kf0 {w : World} {g : Nat} {x : D.Ky} (h : kS.rd w ⟨g, 0, none⟩ = some x) : w.cell? ⟨g, 0, none⟩ = some (.int .u8 x.k) ∧ w.cell? ⟨g, 1, none⟩ = some (.int .u8 x.p) ∧ w.cell? ⟨g, 2, none⟩ = some (.int .u8 x.a) ∧ Nm.rd w ⟨g, 3, none⟩ = some x.n ∧ rd w ⟨g, 15, none⟩ = some x.t := by
  obtain ⟨h1, h2, h3, h4, h5⟩ := kf_of h
  simp only [Nat.zero_add] at h2 h3 h4 h5
  exact ⟨h1, h2, h3, h4, h5⟩
noncomputable def bdk (ps : Array (Nat × Value)) : Sem Value := Instr.build 30 ps
noncomputable def bdr (ps : Array (Nat × Value)) : Sem Value := Instr.build 42 ps
noncomputable def bd25 (ps : Array (Nat × Value)) : Sem Value := Instr.build 83 ps
theorem bd_k (ps : Array (Nat × Value)) : Instr.build 30 ps = bdk ps := rfl
theorem bd_r (ps : Array (Nat × Value)) : Instr.build 42 ps = bdr ps := rfl
theorem bd_25 (ps : Array (Nat × Value)) : Instr.build 83 ps = bd25 ps := rfl
theorem kv_mk {k p a : Nat} (n : Nm.D.Nm) (t : D.Tg) (hk : k < 256) (hp : p < 256) (ha : a < 256) : kS.v (D.mkK k p a n t) = ((Value.int .u8 k) :: (Value.int .u8 p) :: (Value.int .u8 a) :: (bys n.l ++ bys t.l)).toArray := by
  show (bys (k % 256 :: p % 256 :: a % 256 :: (n.l ++ t.l))).toArray = _
  rw [Nat.mod_eq_of_lt hk, Nat.mod_eq_of_lt hp, Nat.mod_eq_of_lt ha]
  simp [bys]
theorem run_bdk_z (w : World) : (bdk #[]).run Tryz.prog w = .ok (.agg (kS.v D.zK)) w := by
  simp [bdk, Instr.build, go_sem]
  rfl
theorem run_bdk_1 (w : World) (k : Nat) (hk : k < 256) : (bdk #[(0, .int .u8 (k : Int))]).run Tryz.prog w = .ok (.agg (kS.v (D.mkK k 0 0 Nm.D.zero D.zero))) w := by
  rw [kv_mk _ _ hk (by decide) (by decide)]
  simp [bdk, Instr.build, go_sem]
  rfl
theorem run_bdk_2 (w : World) (k p : Nat) (hk : k < 256) (hp : p < 256) : (bdk #[(0, .int .u8 (k : Int)), (1, .int .u8 (p : Int))]).run Tryz.prog w = .ok (.agg (kS.v (D.mkK k p 0 Nm.D.zero D.zero))) w := by
  rw [kv_mk _ _ hk hp (by decide)]
  simp [bdk, Instr.build, go_sem]
  rfl
theorem run_bdk_3 (w : World) (k p a : Nat) (hk : k < 256) (hp : p < 256) (ha : a < 256) : (bdk #[(0, .int .u8 (k : Int)), (1, .int .u8 (p : Int)), (2, .int .u8 (a : Int))]).run Tryz.prog w = .ok (.agg (kS.v (D.mkK k p a Nm.D.zero D.zero))) w := by
  rw [kv_mk _ _ hk hp ha]
  simp [bdk, Instr.build, go_sem]
  rfl
theorem run_bdk_4 (w : World) (k p a : Nat) (n : Nm.D.Nm) (hk : k < 256) (hp : p < 256) (ha : a < 256) : (bdk #[(0, .int .u8 (k : Int)), (1, .int .u8 (p : Int)), (2, .int .u8 (a : Int)), (3, .agg (Nm.nc n))]).run Tryz.prog w = .ok (.agg (kS.v (D.mkK k p a n D.zero))) w := by
  rw [kv_mk _ _ hk hp ha]
  obtain ⟨b0, b1, b2, b3, b4, b5, b6, b7, b8, b9, b10, b11, hn⟩ := Nm.twelve n
  have : bys n.l = [b0, b1, b2, b3, b4, b5, b6, b7, b8, b9, b10, b11] := by simpa [Nm.nc] using congrArg Array.toList hn
  rw [hn, this]
  simp [bdk, Instr.build, go_sem]
  rfl
/-- The same of a key's own parts. -/
theorem bdk1 (w : World) (x : D.Ky) : (bdk #[(0, .int .u8 (x.k : Int))]).run Tryz.prog w = .ok (.agg (kS.v (D.mkK x.k 0 0 Nm.D.zero D.zero))) w := run_bdk_1 w _ x.k_lt
theorem bdk2 (w : World) (x : D.Ky) : (bdk #[(0, .int .u8 (x.k : Int)), (1, .int .u8 (x.p : Int))]).run Tryz.prog w = .ok (.agg (kS.v (D.mkK x.k x.p 0 Nm.D.zero D.zero))) w := run_bdk_2 w _ _ x.k_lt x.p_lt
theorem bdk3 (w : World) (x : D.Ky) : (bdk #[(0, .int .u8 (x.k : Int)), (1, .int .u8 (x.p : Int)), (2, .int .u8 (x.a : Int))]).run Tryz.prog w = .ok (.agg (kS.v (D.mkK x.k x.p x.a Nm.D.zero D.zero))) w := run_bdk_3 w _ _ _ x.k_lt x.p_lt x.a_lt
theorem bdk4 (w : World) (x : D.Ky) : (bdk #[(0, .int .u8 (x.k : Int)), (1, .int .u8 (x.p : Int)), (2, .int .u8 (x.a : Int)), (3, .agg (Nm.nc x.n))]).run Tryz.prog w = .ok (.agg (kS.v (D.mkK x.k x.p x.a x.n D.zero))) w := run_bdk_4 w _ _ _ _ x.k_lt x.p_lt x.a_lt
theorem run_bdr_z (w : World) : (bdr #[]).run Tryz.prog w = .ok (.agg (rS.v D.zR)) w := by
  simp [bdr, Instr.build, go_sem]
  rfl
/-- Parts stored into a key that was made last. -/
theorem kset_a (k p a : Nat) (n : Nm.D.Nm) (t : D.Tg) (b : Nat) (hb : b < 256) : (kS.v (D.mkK k p a n t)).setIfInBounds 2 (.int .u8 (b : Int)) = kS.v (D.mkK k p b n t) := by
  show Array.setIfInBounds (bys (k % 256 :: p % 256 :: a % 256 :: (n.l ++ t.l))).toArray 2 (Value.int .u8 (b : Int)) = (bys (k % 256 :: p % 256 :: b % 256 :: (n.l ++ t.l))).toArray
  rw [Nat.mod_eq_of_lt hb]
  simp [bys]
theorem run_stn3 (w : World) (g k p a : Nat) (n m : Nm.D.Nm) (t : D.Tg) (ty : TypeId) (h : g = w.heap.size) :
    (Nm.st 24 (.pointer (some ⟨g, 3, none⟩)) (.agg (Nm.nc m))).run Tryz.prog (w.alloc (.cells (kS.v (D.mkK k p a n t)) ty)) = .ok () (w.alloc (.cells (kS.v (D.mkK k p a m t)) ty)) := by
  subst h
  have hs := run_storeCells_at (P := Tryz.prog) w.heap.size 3 ty (bys m.l) 0 (kS.v (D.mkK k p a n t)) (w.alloc (.cells (kS.v (D.mkK k p a n t)) ty)) (heap_alloc_new w _) (by rw [kS.v_size, bys_len, m.len]; decide) (bys_one m.l)
  have e : ((kS.v (D.mkK k p a n t)).toList.take (3 + 0) ++ bys m.l ++ (kS.v (D.mkK k p a n t)).toList.drop (3 + 0 + (bys m.l).length)).toArray = kS.v (D.mkK k p a m t) := by
    rw [bys_len, m.len]
    show ((bys (k % 256 :: p % 256 :: a % 256 :: (n.l ++ t.l))).take 3 ++ bys m.l ++ (bys (k % 256 :: p % 256 :: a % 256 :: (n.l ++ t.l))).drop 15).toArray = (bys (k % 256 :: p % 256 :: a % 256 :: (m.l ++ t.l))).toArray
    rw [bys_drop, show (k % 256 :: p % 256 :: a % 256 :: (n.l ++ t.l)).drop 15 = (n.l ++ t.l).drop 12 from rfl, show 12 = n.l.length from n.len.symm, List.drop_left]
    simp [bys]
  rw [e, setRow_alloc _ _ _ _ _ rfl] at hs
  simp only [Nm.st, Instr.storeAt, Instr.sureAddr, Sem.run_bind, Sem.run_pure, Result.andThen_ok]
  have hi : (Tryz.prog.info? 24).map (·.size) = some 12 := by kernel_rfl
  cases hq : Tryz.prog.info? 24 with
  | none => simp [hq] at hi
  | some i =>
    have hsz : i.size = 12 := by simpa [hq] using hi
    simp [storeVar, sizeOf, typeInfo, hq, Value.cells, Nm.nc_size, hsz]
    exact hs
theorem run_stt15 (w : World) (g k p a : Nat) (n : Nm.D.Nm) (t m : D.Tg) (ty : TypeId) (h : g = w.heap.size) :
    (st 28 (.pointer (some ⟨g, 15, none⟩)) (.agg (nc m))).run Tryz.prog (w.alloc (.cells (kS.v (D.mkK k p a n t)) ty)) = .ok () (w.alloc (.cells (kS.v (D.mkK k p a n m)) ty)) := by
  subst h
  have hs := run_storeCells_at (P := Tryz.prog) w.heap.size 15 ty (bys m.l) 0 (kS.v (D.mkK k p a n t)) (w.alloc (.cells (kS.v (D.mkK k p a n t)) ty)) (heap_alloc_new w _) (by rw [kS.v_size, bys_len, m.len]; decide) (bys_one m.l)
  have e : ((kS.v (D.mkK k p a n t)).toList.take (15 + 0) ++ bys m.l ++ (kS.v (D.mkK k p a n t)).toList.drop (15 + 0 + (bys m.l).length)).toArray = kS.v (D.mkK k p a n m) := by
    rw [bys_len, m.len]
    show ((bys (k % 256 :: p % 256 :: a % 256 :: (n.l ++ t.l))).take 15 ++ bys m.l ++ (bys (k % 256 :: p % 256 :: a % 256 :: (n.l ++ t.l))).drop 25).toArray = (bys (k % 256 :: p % 256 :: a % 256 :: (n.l ++ m.l))).toArray
    have h1 : (k % 256 :: p % 256 :: a % 256 :: (n.l ++ t.l)).take 15 = k % 256 :: p % 256 :: a % 256 :: n.l := by
      show k % 256 :: p % 256 :: a % 256 :: (n.l ++ t.l).take 12 = _
      rw [show 12 = n.l.length from n.len.symm, List.take_left]
    rw [bys_take, h1, bys_drop, List.drop_of_length_le (by simp [n.len, t.len])]
    simp [bys]
  rw [e, setRow_alloc _ _ _ _ _ rfl] at hs
  simp only [st, Instr.storeAt, Instr.sureAddr, Sem.run_bind, Sem.run_pure, Result.andThen_ok]
  have hi : (Tryz.prog.info? 28).map (·.size) = some 10 := by kernel_rfl
  cases hq : Tryz.prog.info? 28 with
  | none => simp [hq] at hi
  | some i =>
    have hsz : i.size = 10 := by simpa [hq] using hi
    simp [storeVar, sizeOf, typeInfo, hq, Value.cells, nc_size, hsz]
    exact hs
theorem below_up {B : Nat} {w0 w w' : World} (h : Below B w0 w) (hs : B ≤ w.heap.size) (hb : Below w.heap.size w w') : Below B w0 w' := h.trans (hb.mono hs)
/-- The zero values' cells. -/
abbrev z25 : Array Value := #[.int .u8 0, .int .u8 0, .int .u8 0, .int .u8 0, .int .u8 0, .int .u8 0, .int .u8 0, .int .u8 0, .int .u8 0, .int .u8 0, .int .u8 0, .int .u8 0, .int .u8 0, .int .u8 0, .int .u8 0, .int .u8 0, .int .u8 0, .int .u8 0, .int .u8 0, .int .u8 0, .int .u8 0, .int .u8 0, .int .u8 0, .int .u8 0, .int .u8 0]
end Go.Proofs.YtgobbdfgjgjigaaGreatDoor
