/-
  
-/
import Derived.Test.YtjlaffgbmcpldaaGreatDoorG07
import Derived.Test.YtjlaffgbmcpldaaGreatDoorARow
import Derived.BigQuiet
import Derived.Deep.Light
import Derived.Test.YtjlaffgbmcpldaaGreatDoorG04
import Derived.Deep.DrawnRows
set_option linter.unusedVariables false
set_option linter.unusedSimpArgs false
set_option maxRecDepth 100000
namespace Go.Proofs.YtjlaffgbmcpldaaGreatDoor
open Go.RowKit

theorem add_o (g o j : Nat) : (⟨g, o, none⟩ : Addr).add j = ⟨g, o + j, none⟩ := by simp [Addr.add]
structure KF (w : World) (g o : Nat) (x : D.Ky) : Prop where
 k : w.cell? ⟨g, o, none⟩ = some (.int .u8 x.k)
 p : w.cell? ⟨g, o + 1, none⟩ = some (.int .u8 x.p)
 a : w.cell? ⟨g, o + 2, none⟩ = some (.int .u8 x.a)
 n : Nm.rd w ⟨g, o + 3, none⟩ = some x.n
 t : rd w ⟨g, o + 15, none⟩ = some x.t
theorem bys_get {l : List Nat} {i : Nat} (h : i < l.length) : (bys l)[i]? = some (.int .u8 ((l.getD i 0 : Nat) : Int)) := by
 simp [bys, List.getElem?_eq_getElem h, List.getD]
theorem kf_of {w : World} {g o : Nat} {x : D.Ky} (h : kS.rd w ⟨g, o, none⟩ = some x) : KF w g o x := by
 have hc : kS.At w ⟨g, o, none⟩ x := Shp.at_of h
 have hx := x.len
 have c : ∀ j u, (bys x.l)[j]? = some u → w.cell? ⟨g, o + j, none⟩ = some u := fun j u hu => by have := hc j u hu; rwa [add_o] at this
 refine ⟨c 0 _ (bys_get (by omega)), c 1 _ (bys_get (by omega)), c 2 _ (bys_get (by omega)), Nm.rd_of fun j u hu => ?_, rd_of fun j u hu => ?_⟩
 ·rw [add_o, Nat.add_assoc]
  refine c (3 + j) u ?_
  have hj : j < 12 := by have := (List.getElem?_eq_some_iff.1 hu).1; rwa [bys_len, x.n.len] at this
  rw [show x.n.l = (x.l.drop 3).take 12 from rfl, ← bys_take, ← bys_drop, List.getElem?_take_of_lt hj, List.getElem?_drop] at hu
  exact hu
 ·rw [add_o, Nat.add_assoc]
  refine c (15 + j) u ?_
  rw [show x.t.l = x.l.drop 15 from rfl, ← bys_drop, List.getElem?_drop] at hu
  exact hu
theorem kf0 {w : World} {g : Nat} {x : D.Ky} (h : kS.rd w ⟨g, 0, none⟩ = some x) : w.cell? ⟨g, 0, none⟩ = some (.int .u8 x.k) ∧ w.cell? ⟨g, 1, none⟩ = some (.int .u8 x.p) ∧ w.cell? ⟨g, 2, none⟩ = some (.int .u8 x.a) ∧ Nm.rd w ⟨g, 3, none⟩ = some x.n ∧ rd w ⟨g, 15, none⟩ = some x.t := by
 obtain ⟨h1, h2, h3, h4, h5⟩ := kf_of h
 simp only [Nat.zero_add] at h2 h3 h4 h5
 exact ⟨h1, h2, h3, h4, h5⟩
theorem rf0 {w : World} {g : Nat} {x : D.Rk} (h : rS.rd w ⟨g, 0, none⟩ = some x) : w.cell? ⟨g, 0, none⟩ = some (.int .i64 x.k) ∧ w.cell? ⟨g, 1, none⟩ = some (.int .i64 x.p) ∧ w.cell? ⟨g, 2, none⟩ = some (.int .i64 x.a) ∧ Nm.rd w ⟨g, 3, none⟩ = some x.n ∧ rd w ⟨g, 15, none⟩ = some x.t := by
 have hc : rS.At w ⟨g, 0, none⟩ x := Shp.at_of h
 have c : ∀ j u, (rcells x)[j]? = some u → w.cell? ⟨g, j, none⟩ = some u := fun j u hu => by have := hc j u hu; rwa [add_o, Nat.zero_add] at this
 refine ⟨c 0 _ rfl, c 1 _ rfl, c 2 _ rfl, Nm.rd_of fun j u hu => ?_, rd_of fun j u hu => ?_⟩
 ·rw [add_o]
  refine c (3 + j) u ?_
  have hj := (List.getElem?_eq_some_iff.1 hu).1
  rw [Nat.add_comm]
  show (bys x.n.l ++ bys x.t.l)[j]? = _
  rw [List.getElem?_append_left hj, hu]
 ·rw [add_o]
  refine c (15 + j) u ?_
  rw [show 15 + j = (12 + j) + 3 by omega]
  show (bys x.n.l ++ bys x.t.l)[12 + j]? = _
  have hn : (bys x.n.l).length = 12 := by rw [bys_len, x.n.len]
  rw [List.getElem?_append_right (by omega), hn, Nat.add_sub_cancel_left, hu]
noncomputable def bdk (ps : Array (Nat × Value)) : Sem Value := Instr.build 39 ps
noncomputable def bdr (ps : Array (Nat × Value)) : Sem Value := Instr.build 63 ps
noncomputable def bdp (ps : Array (Nat × Value)) : Sem Value := Instr.build 41 ps
noncomputable def bd25 (ps : Array (Nat × Value)) : Sem Value := Instr.build 201 ps
theorem bd_k (ps : Array (Nat × Value)) : Instr.build 39 ps = bdk ps := rfl
theorem bd_r (ps : Array (Nat × Value)) : Instr.build 63 ps = bdr ps := rfl
theorem bd_p (ps : Array (Nat × Value)) : Instr.build 41 ps = bdp ps := rfl
theorem bd_25 (ps : Array (Nat × Value)) : Instr.build 201 ps = bd25 ps := rfl
theorem kv_mk {k p a : Nat} (n : Nm.D.Nm) (t : D.Tg) (hk : k < 256) (hp : p < 256) (ha : a < 256) : kS.v (D.mkK k p a n t) = ((Value.int .u8 k) :: (Value.int .u8 p) :: (Value.int .u8 a) :: (bys n.l ++ bys t.l)).toArray := by
 show (bys (k % 256 :: p % 256 :: a % 256 :: (n.l ++ t.l))).toArray = _
 rw [Nat.mod_eq_of_lt hk, Nat.mod_eq_of_lt hp, Nat.mod_eq_of_lt ha]
 simp [bys]
theorem run_bdk_z (w : World) : (bdk #[]).run Tryz.prog w = .ok (.agg (kS.v D.zK)) w := by
 simp [bdk, Instr.build, go_sem]
 rfl
theorem run_bdk_1 (w : World) (k : Nat) (hk : k < 256) : (bdk #[(0, .int .u8 (k : Int))]).run Tryz.prog w = .ok (.agg (kS.v (D.mkK k 0 0 Nm.D.zero D.zero))) w := by
 rw [kv_mk _ _ hk (by decide) (by decide)]
 simp [bdk, Instr.build, go_sem]
 rfl
theorem run_bdk_2 (w : World) (k p : Nat) (hk : k < 256) (hp : p < 256) : (bdk #[(0, .int .u8 (k : Int)), (1, .int .u8 (p : Int))]).run Tryz.prog w = .ok (.agg (kS.v (D.mkK k p 0 Nm.D.zero D.zero))) w := by
 rw [kv_mk _ _ hk hp (by decide)]
 simp [bdk, Instr.build, go_sem]
 rfl
theorem run_bdk_3 (w : World) (k p a : Nat) (hk : k < 256) (hp : p < 256) (ha : a < 256) : (bdk #[(0, .int .u8 (k : Int)), (1, .int .u8 (p : Int)), (2, .int .u8 (a : Int))]).run Tryz.prog w = .ok (.agg (kS.v (D.mkK k p a Nm.D.zero D.zero))) w := by
 rw [kv_mk _ _ hk hp ha]
 simp [bdk, Instr.build, go_sem]
 rfl
theorem run_bdk_4 (w : World) (k p a : Nat) (n : Nm.D.Nm) (hk : k < 256) (hp : p < 256) (ha : a < 256) : (bdk #[(0, .int .u8 (k : Int)), (1, .int .u8 (p : Int)), (2, .int .u8 (a : Int)), (3, .agg (Nm.nc n))]).run Tryz.prog w = .ok (.agg (kS.v (D.mkK k p a n D.zero))) w := by
 rw [kv_mk _ _ hk hp ha]
 obtain ⟨b0, b1, b2, b3, b4, b5, b6, b7, b8, b9, b10, b11, hn⟩ := Nm.twelve n
 have : bys n.l = [b0, b1, b2, b3, b4, b5, b6, b7, b8, b9, b10, b11] := by simpa [Nm.nc] using congrArg Array.toList hn
 rw [hn, this]
 simp [bdk, Instr.build, go_sem]
 rfl
theorem bdk1 (w : World) (x : D.Ky) : (bdk #[(0, .int .u8 (x.k : Int))]).run Tryz.prog w = .ok (.agg (kS.v (D.mkK x.k 0 0 Nm.D.zero D.zero))) w := run_bdk_1 w _ x.k_lt
theorem bdk2 (w : World) (x : D.Ky) : (bdk #[(0, .int .u8 (x.k : Int)), (1, .int .u8 (x.p : Int))]).run Tryz.prog w = .ok (.agg (kS.v (D.mkK x.k x.p 0 Nm.D.zero D.zero))) w := run_bdk_2 w _ _ x.k_lt x.p_lt
theorem bdk3 (w : World) (x : D.Ky) : (bdk #[(0, .int .u8 (x.k : Int)), (1, .int .u8 (x.p : Int)), (2, .int .u8 (x.a : Int))]).run Tryz.prog w = .ok (.agg (kS.v (D.mkK x.k x.p x.a Nm.D.zero D.zero))) w := run_bdk_3 w _ _ _ x.k_lt x.p_lt x.a_lt
theorem bdk4 (w : World) (x : D.Ky) : (bdk #[(0, .int .u8 (x.k : Int)), (1, .int .u8 (x.p : Int)), (2, .int .u8 (x.a : Int)), (3, .agg (Nm.nc x.n))]).run Tryz.prog w = .ok (.agg (kS.v (D.mkK x.k x.p x.a x.n D.zero))) w := run_bdk_4 w _ _ _ _ x.k_lt x.p_lt x.a_lt
theorem run_bdr_z (w : World) : (bdr #[]).run Tryz.prog w = .ok (.agg (rS.v D.zR)) w := by
 simp [bdr, Instr.build, go_sem]
 rfl
theorem kset_a (k p a : Nat) (n : Nm.D.Nm) (t : D.Tg) (b : Nat) (hb : b < 256) : (kS.v (D.mkK k p a n t)).setIfInBounds 2 (.int .u8 (b : Int)) = kS.v (D.mkK k p b n t) := by
 show Array.setIfInBounds (bys (k % 256 :: p % 256 :: a % 256 :: (n.l ++ t.l))).toArray 2 (Value.int .u8 (b : Int)) = (bys (k % 256 :: p % 256 :: b % 256 :: (n.l ++ t.l))).toArray
 rw [Nat.mod_eq_of_lt hb]
 simp [bys]
theorem run_stn3 (w : World) (g k p a : Nat) (n m : Nm.D.Nm) (t : D.Tg) (ty : TypeId) (h : g = w.heap.size) :
  (Nm.st 33 (.pointer (some ⟨g, 3, none⟩)) (.agg (Nm.nc m))).run Tryz.prog (w.alloc (.cells (kS.v (D.mkK k p a n t)) ty)) = .ok () (w.alloc (.cells (kS.v (D.mkK k p a m t)) ty)) := by
 subst h
 have hs := run_storeCells_at (P := Tryz.prog) w.heap.size 3 ty (bys m.l) 0 (kS.v (D.mkK k p a n t)) (w.alloc (.cells (kS.v (D.mkK k p a n t)) ty)) (heap_alloc_new w _) (by rw [kS.v_size, bys_len, m.len]; decide) (bys_one m.l)
 have e : ((kS.v (D.mkK k p a n t)).toList.take (3 + 0) ++ bys m.l ++ (kS.v (D.mkK k p a n t)).toList.drop (3 + 0 + (bys m.l).length)).toArray = kS.v (D.mkK k p a m t) := by
  rw [bys_len, m.len]
  show ((bys (k % 256 :: p % 256 :: a % 256 :: (n.l ++ t.l))).take 3 ++ bys m.l ++ (bys (k % 256 :: p % 256 :: a % 256 :: (n.l ++ t.l))).drop 15).toArray = (bys (k % 256 :: p % 256 :: a % 256 :: (m.l ++ t.l))).toArray
  rw [bys_drop, show (k % 256 :: p % 256 :: a % 256 :: (n.l ++ t.l)).drop 15 = (n.l ++ t.l).drop 12 from rfl, show 12 = n.l.length from n.len.symm, List.drop_left]
  simp [bys]
 rw [e, setRow_alloc _ _ _ _ _ rfl] at hs
 simp only [Nm.st, Instr.storeAt, Instr.sureAddr, Sem.run_bind, Sem.run_pure, Result.andThen_ok]
 have hi : (Tryz.prog.info? 33).map (·.size) = some 12 := by kernel_rfl
 cases hq : Tryz.prog.info? 33 with
 | none => simp [hq] at hi
 | some i =>
  have hsz : i.size = 12 := by simpa [hq] using hi
  simp [storeVar, sizeOf, typeInfo, hq, Value.cells, Nm.nc_size, hsz]
  exact hs
theorem run_stt15 (w : World) (g k p a : Nat) (n : Nm.D.Nm) (t m : D.Tg) (ty : TypeId) (h : g = w.heap.size) :
  (st 37 (.pointer (some ⟨g, 15, none⟩)) (.agg (nc m))).run Tryz.prog (w.alloc (.cells (kS.v (D.mkK k p a n t)) ty)) = .ok () (w.alloc (.cells (kS.v (D.mkK k p a n m)) ty)) := by
 subst h
 have hs := run_storeCells_at (P := Tryz.prog) w.heap.size 15 ty (bys m.l) 0 (kS.v (D.mkK k p a n t)) (w.alloc (.cells (kS.v (D.mkK k p a n t)) ty)) (heap_alloc_new w _) (by rw [kS.v_size, bys_len, m.len]; decide) (bys_one m.l)
 have e : ((kS.v (D.mkK k p a n t)).toList.take (15 + 0) ++ bys m.l ++ (kS.v (D.mkK k p a n t)).toList.drop (15 + 0 + (bys m.l).length)).toArray = kS.v (D.mkK k p a n m) := by
  rw [bys_len, m.len]
  show ((bys (k % 256 :: p % 256 :: a % 256 :: (n.l ++ t.l))).take 15 ++ bys m.l ++ (bys (k % 256 :: p % 256 :: a % 256 :: (n.l ++ t.l))).drop 25).toArray = (bys (k % 256 :: p % 256 :: a % 256 :: (n.l ++ m.l))).toArray
  have h1 : (k % 256 :: p % 256 :: a % 256 :: (n.l ++ t.l)).take 15 = k % 256 :: p % 256 :: a % 256 :: n.l := by
   show k % 256 :: p % 256 :: a % 256 :: (n.l ++ t.l).take 12 = _
   rw [show 12 = n.l.length from n.len.symm, List.take_left]
  rw [bys_take, h1, bys_drop, List.drop_of_length_le (by simp [n.len, t.len])]
  simp [bys]
 rw [e, setRow_alloc _ _ _ _ _ rfl] at hs
 simp only [st, Instr.storeAt, Instr.sureAddr, Sem.run_bind, Sem.run_pure, Result.andThen_ok]
 have hi : (Tryz.prog.info? 37).map (·.size) = some 10 := by kernel_rfl
 cases hq : Tryz.prog.info? 37 with
 | none => simp [hq] at hi
 | some i =>
  have hsz : i.size = 10 := by simpa [hq] using hi
  simp [storeVar, sizeOf, typeInfo, hq, Value.cells, nc_size, hsz]
  exact hs
theorem below_up {B : Nat} {w0 w w' : World} (h : Below B w0 w) (hs : B ≤ w.heap.size) (hb : Below w.heap.size w w') : Below B w0 w' := h.trans (hb.mono hs)
abbrev z25 : Array Value := #[.int .u8 0, .int .u8 0, .int .u8 0, .int .u8 0, .int .u8 0, .int .u8 0, .int .u8 0, .int .u8 0, .int .u8 0, .int .u8 0, .int .u8 0, .int .u8 0, .int .u8 0, .int .u8 0, .int .u8 0, .int .u8 0, .int .u8 0, .int .u8 0, .int .u8 0, .int .u8 0, .int .u8 0, .int .u8 0, .int .u8 0, .int .u8 0, .int .u8 0]
theorem kz : kS.v D.zK = z25 := rfl
end Go.Proofs.YtjlaffgbmcpldaaGreatDoor
set_option linter.unusedVariables false
set_option linter.unusedSimpArgs false
set_option maxRecDepth 100000
namespace Go.Proofs.YtjlaffgbmcpldaaGreatDoor.Nm
open Go.RowKit

structure On where
 n : Nat
 os : Array Obj
 deriving Inhabited
def ext (w : World) (p : On) : World := { w with heap := w.heap ++ p.os, drawn := p.n }
theorem ext_heap (w : World) (p : On) {k : Nat} (h : k < w.heap.size) : (ext w p).heap[k]? = w.heap[k]? := by simp [ext, Array.getElem?_append, h]
theorem ext_size (w : World) (p : On) : w.heap.size ≤ (ext w p).heap.size := by simp [ext]
theorem ext_below (w : World) (p : On) : Below w.heap.size w (ext w p) := ⟨rfl, rfl, rfl, ext_size w p, fun k hk => ext_heap w p hk⟩
theorem ext_of {w w' : World} (h : Below w.heap.size w w') : ∃ p, w' = ext w p := by
 obtain ⟨heap, tape, drawn, os, output⟩ := w
 obtain ⟨heap', tape', drawn', os', output'⟩ := w'
 obtain ⟨h1, h2, h3, h4, h5⟩ := h
 simp only at h1 h2 h3 h4 h5
 subst h1 h2 h3
 refine ⟨⟨drawn', heap'.extract heap.size heap'.size⟩, ?_⟩
 simp only [ext]
 congr 1
 apply Array.ext_getElem?
 intro i
 rw [Array.getElem?_append]
 by_cases hi : i < heap.size
 ·rw [if_pos hi]; exact h5 i hi
 ·rw [if_neg hi, Array.getElem?_extract]
  split
  ·congr 1; omega
  ·rw [Array.getElem?_eq_none (by omega)]
theorem ext_to {w w' : World} (h : ∃ p, w' = ext w p) : Below w.heap.size w w' := by
 obtain ⟨p, rfl⟩ := h
 exact ext_below w p
theorem wp_region_ext {P : Program} {id : Nat} {Q : Exit → Act → World → Prop} {a : Act} {w : World} {l : List Oper} (hm : P.follows .mixedOrders = true) (hB : Region.lexB .any l.toArray = true)
  (h : wpQuiet P l.toArray (fun w' => ∃ p : On, w' = ext w p) (fun a' => ∀ w', (∃ p : On, w' = ext w p) → Q .normal a' w') l a) : (Code.region id l.toArray true).wp P Q a w :=
 wp_region_quiet (C := fun w' => ∃ p : On, w' = ext w p) hm hB ⟨⟨w.drawn + 1, #[]⟩, by simp [ext]⟩ (by simpa using h)
theorem calls_ext {P : Program} {f : FuncId} {args : Array Value} {w : World} {p : On} {v : Value}
  (h : Calls P f args (ext w p) fun e w' => e = .returned v ∧ Below (ext w p).heap.size (ext w p) w') : Calls P f args (ext w p) fun e w'' => e = .returned v ∧ ∃ p : On, w'' = ext w p :=
 h.mono fun _ _ ⟨he, hb⟩ => ⟨he, ext_of ((ext_below w p).trans (hb.mono (ext_size w p)))⟩
theorem calls_same {P : Program} {f : FuncId} {args : Array Value} {w : World} {p : On} {v : Value}
  (h : Calls P f args (ext w p) fun e w' => e = .returned v ∧ ext w p = w') : Calls P f args (ext w p) fun e w'' => e = .returned v ∧ ∃ p : On, w'' = ext w p :=
 h.mono fun _ _ ⟨he, hb⟩ => ⟨he, p, hb.symm⟩
theorem rd_ext (w : World) (p : On) (a : Addr) (h : a.block < w.heap.size) : rd (ext w p) a = rd w a := rd_to (ext_heap w p h)
theorem cell_ext (w : World) (p : On) (a : Addr) (h : a.block < w.heap.size) : (ext w p).cell? a = w.cell? a := World.cell?_of_block (ext_heap w p h)
end Go.Proofs.YtjlaffgbmcpldaaGreatDoor.Nm
set_option linter.unusedVariables false
set_option linter.unusedSimpArgs false
namespace Go.Proofs.YtjlaffgbmcpldaaGreatDoor
open Go.RowKit
attribute [local go_sem ↓] Go.wp_at_zero Go.wp_at_succ

def pk (l : List Nat) (k n : Nat) : Array Value := (bys (D.padn (l.take k) n)).toArray
theorem pk_size (l : List Nat) (k n : Nat) : (pk l k n).size = n := by simp [pk, bys_len, D.padn_len]
theorem padn_get (l : List Nat) (n j : Nat) : (D.padn l n)[j]? = if j < n then some ((l[j]?).getD 0) else none := by
 unfold D.padn
 rw [List.getElem?_take]
 by_cases hj : j < n
 ·rw [if_pos hj, if_pos hj]
  by_cases hl : j < l.length
  ·rw [List.getElem?_append_left hl, List.getElem?_eq_getElem hl]; rfl
  ·rw [List.getElem?_append_right (by omega), List.getElem?_eq_none (l := l) (by omega), List.getElem?_replicate, if_pos (by omega)]; rfl
 ·rw [if_neg hj, if_neg hj]
theorem padn_next {l : List Nat} {k b n : Nat} (hb : l[k]? = some b) (hk : k < n) : D.padn (l.take (k + 1)) n = (D.padn (l.take k) n).set k b := by
 apply List.ext_getElem?
 intro j
 rw [List.getElem?_set, D.padn_len, padn_get, padn_get, List.getElem?_take, List.getElem?_take]
 by_cases e : k = j
 ·subst e
  rw [if_pos hk, if_pos (by omega), hb, if_pos rfl, if_pos hk]; rfl
 ·rw [if_neg e]
  by_cases h1 : j < k
  ·rw [if_pos (show j < k + 1 by omega), if_pos h1]
  ·rw [if_neg (show ¬ j < k + 1 by omega), if_neg h1]
theorem pk_next {l : List Nat} {k b n : Nat} (hb : l[k]? = some b) (hk : k < n) : (pk l k n).setIfInBounds k (.int .u8 b) = pk l (k + 1) n := by
 rw [pk, pk, padn_next hb hk, bys, bys, List.setIfInBounds_toArray, List.map_set]
theorem pk_end {l : List Nat} {k n : Nat} (h : k = l.length ∨ n ≤ k) (hk : k ≤ l.length) : pk l k n = (bys (D.padn l n)).toArray := by
 rw [pk]
 congr 2
 rcases h with rfl | h
 ·rw [List.take_of_length_le (Nat.le_refl _)]
 ·unfold D.padn
  rw [List.take_append_of_le_length (by simp; omega), List.take_append_of_le_length (by omega), List.take_take, Nat.min_eq_left h]
end Go.Proofs.YtjlaffgbmcpldaaGreatDoor
