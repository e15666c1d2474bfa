/-
  
-/
import Derived.Test.YtgnjjlgmlokhmaaGreatDoorG13
import Derived.Test.YtgnjjlgmlokhmaaGreatDoorMem
import Derived.Test.YtgnjjlgmlokhmaaGreatDoorRow
import Derived.Test.YtgnjjlgmlokhmaaGreatDoorG03
import Derived.Deep.MidRow
import Derived.Deep.WholeRow
import Derived.Laws.StructEq
import Derived.DeepKeys4
import Derived.Maps.OwnSet
import Derived.KernelRfl
set_option linter.unusedVariables false
set_option linter.unusedSimpArgs false
set_option maxRecDepth 100000
namespace Go.Proofs.YtgnjjlgmlokhmaaGreatDoor
open Go.RowKit
attribute [local go_sem ↓] Go.wp_at_zero Go.wp_at_succ

structure Env (w : World) : Prop where
 c0 : w.cell? ⟨2, 0, none⟩ = some (.string ⟨#[122, 101, 114, 111]⟩)
 c1 : w.cell? ⟨2, 1, none⟩ = some (.string ⟨#[111, 110, 101]⟩)
 c2 : w.cell? ⟨2, 2, none⟩ = some (.string ⟨#[116, 119, 111]⟩)
 c3 : w.cell? ⟨2, 3, none⟩ = some (.string ⟨#[102, 101, 119]⟩)
 c4 : w.cell? ⟨2, 4, none⟩ = some (.string ⟨#[109, 97, 110, 121]⟩)
 c5 : w.cell? ⟨2, 5, none⟩ = some (.string ⟨#[111, 116, 104, 101, 114]⟩)
theorem cell_kept_ {w w' : World} (hb : Below w.heap.size w w') {a : Addr} {v : Value} (h : w.cell? a = some v) : w'.cell? a = some v := (World.cell?_of_block (hb.block _ (World.block_lt_of_cell? w _ h))).trans h
theorem Env.on {w w' : World} (h : Env w) (hb : Below w.heap.size w w') : Env w' := ⟨cell_kept_ hb h.c0, cell_kept_ hb h.c1, cell_kept_ hb h.c2, cell_kept_ hb h.c3, cell_kept_ hb h.c4, cell_kept_ hb h.c5⟩
def D.rdw (l : List Nat) : Option Nat := (List.range 6).find? fun i => decide (D.wrds.getD i [] = l)
theorem D.rdw_some {k : Nat} (hk : k < 6) {l : List Nat} (h : D.wrds.getD k [] = l) : D.rdw l = some k := by
 subst h
 have : ∀ k : Fin 6, D.rdw (D.wrds.getD k.1 []) = some k.1 := by decide
 exact this ⟨k, hk⟩
theorem D.rdw_none {l : List Nat} (h : ∀ j, j < 6 -> D.wrds.getD j [] ≠ l) : D.rdw l = none := by
 unfold D.rdw
 rw [List.find?_eq_none]
 intro j hj
 have := h j (by simpa using hj)
 simpa using this
def D.rda (l : List Nat) : Nat × Nat := match D.rdw l with
 | some k => (k, 0)
 | none => (0, 15)
theorem wtest (u : List UInt8) (l : List Nat) (s : ByteArray) (h : u.map (·.toNat) = l) : (u == s.toList) = decide (l = D.ns s) := by
 have := txt_test s u l h
 rw [Bool.eq_iff_iff, beq_iff_eq, decide_eq_true_eq] at this ⊢
 exact ⟨fun e => (this.1 e.symm).symm, fun e => (this.2 e.symm).symm⟩
set_option maxHeartbeats 2000000 in
theorem read_any (s : ByteArray) (w : World) (hE : Env w) : Calls Tryz.prog 104 #[.string s] w fun e w' => e = .returned (.tuple #[.int .i64 (D.rda (D.ns s)).1, .int .i64 (D.rda (D.ns s)).2]) ∧ w = w' := by
 obtain ⟨c0, c1, c2, c3, c4, c5⟩ := hE
 go_enter Tryz.func104, Tryz.ntmps104
 go_wp2
 go_loopw [5] (fun i wr => ∃ k : Nat, k <= 6 ∧ i = .int .i64 k ∧ Kept (∀ j, j < k -> D.wrds.getD j [] ≠ D.ns s) ∧ wr = w) (fun i _ => 6 - (intOf i).toNat)
 case atStart => exact ⟨0, Nat.zero_le _, rfl, ⟨fun j hj => by omega⟩, rfl⟩
 case round =>
  obtain ⟨k, hk, rfl, HN, rfl⟩ := hrel
  by_cases hlt : k < 6
  ·obtain ⟨b, hb⟩ : ∃ b, decide (D.wrds.getD k [] = D.ns s) = b := ⟨_, rfl⟩
   have t0 : k = 0 -> (([122, 101, 114, 111] : List UInt8) == s.toList) = b := fun e => by subst e; exact (wtest _ _ s rfl).trans hb
   have t1 : k = 1 -> (([111, 110, 101] : List UInt8) == s.toList) = b := fun e => by subst e; exact (wtest _ _ s rfl).trans hb
   have t2 : k = 2 -> (([116, 119, 111] : List UInt8) == s.toList) = b := fun e => by subst e; exact (wtest _ _ s rfl).trans hb
   have t3 : k = 3 -> (([102, 101, 119] : List UInt8) == s.toList) = b := fun e => by subst e; exact (wtest _ _ s rfl).trans hb
   have t4 : k = 4 -> (([109, 97, 110, 121] : List UInt8) == s.toList) = b := fun e => by subst e; exact (wtest _ _ s rfl).trans hb
   have t5 : k = 5 -> (([111, 116, 104, 101, 114] : List UInt8) == s.toList) = b := fun e => by subst e; exact (wtest _ _ s rfl).trans hb
   cases b with
   | true =>
    have HA : Kept (D.rda (D.ns s) = (k, 0)) := ⟨by unfold D.rda; rw [D.rdw_some hlt (of_decide_eq_true hb)]⟩
    clear HN hb
    obtain rfl | rfl | rfl | rfl | rfl | rfl : k = 0 ∨ k = 1 ∨ k = 2 ∨ k = 3 ∨ k = 4 ∨ k = 5 := by omega
    ·have t := t0 rfl
     clear t0 t1 t2 t3 t4 t5
     go_wp2
     go_ret2
     exact ⟨by rw [HA.out]; rfl, rfl⟩
    ·have t := t1 rfl
     clear t0 t1 t2 t3 t4 t5
     go_wp2
     go_ret2
     exact ⟨by rw [HA.out]; rfl, rfl⟩
    ·have t := t2 rfl
     clear t0 t1 t2 t3 t4 t5
     go_wp2
     go_ret2
     exact ⟨by rw [HA.out]; rfl, rfl⟩
    ·have t := t3 rfl
     clear t0 t1 t2 t3 t4 t5
     go_wp2
     go_ret2
     exact ⟨by rw [HA.out]; rfl, rfl⟩
    ·have t := t4 rfl
     clear t0 t1 t2 t3 t4 t5
     go_wp2
     go_ret2
     exact ⟨by rw [HA.out]; rfl, rfl⟩
    ·have t := t5 rfl
     clear t0 t1 t2 t3 t4 t5
     go_wp2
     go_ret2
     exact ⟨by rw [HA.out]; rfl, rfl⟩
   | false =>
    have HN' : Kept (∀ j, j < k + 1 -> D.wrds.getD j [] ≠ D.ns s) := ⟨fun j hj => by
     obtain h | rfl : j < k ∨ j = k := by omega
     ·exact HN.out j h
     ·exact of_decide_eq_false hb⟩
    clear HN hb
    obtain rfl | rfl | rfl | rfl | rfl | rfl : k = 0 ∨ k = 1 ∨ k = 2 ∨ k = 3 ∨ k = 4 ∨ k = 5 := by omega
    ·have t := t0 rfl
     clear t0 t1 t2 t3 t4 t5
     go_wp2
     go_roundw
     case rel => exact ⟨1, by omega, rfl, HN', trivial⟩
     case measure => simp [intOf]
    ·have t := t1 rfl
     clear t0 t1 t2 t3 t4 t5
     go_wp2
     go_roundw
     case rel => exact ⟨2, by omega, rfl, HN', trivial⟩
     case measure => simp [intOf]
    ·have t := t2 rfl
     clear t0 t1 t2 t3 t4 t5
     go_wp2
     go_roundw
     case rel => exact ⟨3, by omega, rfl, HN', trivial⟩
     case measure => simp [intOf]
    ·have t := t3 rfl
     clear t0 t1 t2 t3 t4 t5
     go_wp2
     go_roundw
     case rel => exact ⟨4, by omega, rfl, HN', trivial⟩
     case measure => simp [intOf]
    ·have t := t4 rfl
     clear t0 t1 t2 t3 t4 t5
     go_wp2
     go_roundw
     case rel => exact ⟨5, by omega, rfl, HN', trivial⟩
     case measure => simp [intOf]
    ·have t := t5 rfl
     clear t0 t1 t2 t3 t4 t5
     go_wp2
     go_roundw
     case rel => exact ⟨6, by omega, rfl, HN', trivial⟩
     case measure => simp [intOf]
  ·obtain rfl : k = 6 := by omega
   have HA : Kept (D.rda (D.ns s) = (0, 15)) := ⟨by unfold D.rda; rw [D.rdw_none HN.out]⟩
   clear HN
   go_wp2
   go_ret2
   exact ⟨by rw [HA.out]; rfl, rfl⟩
end Go.Proofs.YtgnjjlgmlokhmaaGreatDoor
namespace Go.Proofs.YtgnjjlgmlokhmaaGreatDoor.Nm
open Go.RowKit

def nc (x : D.Nm) : Array Value := (bys x.l).toArray
theorem nc_size (x : D.Nm) : (nc x).size = 12 := by simp [nc, bys_len, x.len]
theorem bys_inj {l k : List Nat} (h : bys l = bys k) : l = k := by
 induction l generalizing k with
 | nil => cases k with
  | nil => rfl
  | cons b k => simp [bys] at h
 | cons a l ih => cases k with
  | nil => simp [bys] at h
  | cons b k =>
   simp only [bys, List.map_cons, List.cons.injEq, Value.int.injEq, true_and] at h
   obtain ⟨h1, h2⟩ := h
   rw [ih h2, show a = b by omega]
theorem nc_inj {x y : D.Nm} (h : nc x = nc y) : x = y := D.Nm.eq (bys_inj (by simpa [nc] using h))
theorem nc_one (x : D.Nm) : (nc x).all (·.oneCell') = true := all_oneCell_toArray (bys_one x.l)
theorem nc_zero : nc D.zero = #[.int .u8 0, .int .u8 0, .int .u8 0, .int .u8 0, .int .u8 0, .int .u8 0, .int .u8 0, .int .u8 0, .int .u8 0, .int .u8 0, .int .u8 0, .int .u8 0] := rfl

def At (w : World) (a : Addr) (x : D.Nm) : Prop := ∀ j u, (bys x.l)[j]? = some u -> w.cell? (a.add j) = some u
theorem At.one {w : World} {a : Addr} {x y : D.Nm} (h : At w a x) (k : At w a y) : x = y := by
 refine D.Nm.eq (bys_inj (List.ext_getElem? fun j => ?_))
 by_cases hj : j < 12
 ·have e1 : (bys x.l)[j]? = some ((bys x.l)[j]'(by rw [bys_len, x.len]; exact hj)) := List.getElem?_eq_getElem _
  have e2 : (bys y.l)[j]? = some ((bys y.l)[j]'(by rw [bys_len, y.len]; exact hj)) := List.getElem?_eq_getElem _
  have := (h j _ e1).symm.trans (k j _ e2)
  rw [e1, e2, this]
 ·rw [List.getElem?_eq_none (by rw [bys_len, x.len]; omega), List.getElem?_eq_none (by rw [bys_len, y.len]; omega)]
open Classical in
noncomputable def rd (w : World) (a : Addr) : Option D.Nm := if h : ∃ x, At w a x then some (Classical.choose h) else none
theorem rd_of {w : World} {a : Addr} {x : D.Nm} (h : At w a x) : rd w a = some x := by
 have hx : ∃ x, At w a x := ⟨x, h⟩
 rw [rd, dif_pos hx, (Classical.choose_spec hx).one h]
theorem at_of {w : World} {a : Addr} {x : D.Nm} (h : rd w a = some x) : At w a x := by
 unfold rd at h
 split at h
 ·rename_i hx
  injection h with h
  rw [<- h]
  exact Classical.choose_spec hx
 ·cases h
theorem At.tow {w w' : World} {a : Addr} {x : D.Nm} (h : At w a x) (hk : w'.heap[a.block]? = w.heap[a.block]?) : At w' a x := fun j u hu =>
 (World.cell?_of_block (w := w) (by rw [block_of_add]; exact hk)).trans (h j u hu)
theorem rd_to {w w' : World} {a : Addr} (hk : w'.heap[a.block]? = w.heap[a.block]?) : rd w' a = rd w a := by
 by_cases h : ∃ x, At w a x
 ·obtain ⟨x, hx⟩ := h
  rw [rd_of hx, rd_of (hx.tow hk)]
 ·have h' : ¬ ∃ x, At w' a x := fun ⟨x, hx⟩ => h ⟨x, hx.tow hk.symm⟩
  rw [rd, rd, dif_neg h, dif_neg h']
theorem rd_lt {w : World} {a : Addr} {x : D.Nm} (h : rd w a = some x) : a.block < w.heap.size := by
 have e1 : (bys x.l)[0]? = some ((bys x.l)[0]'(by rw [bys_len, x.len]; decide)) := List.getElem?_eq_getElem _
 have := World.block_lt_of_cell? w _ (at_of h 0 _ e1)
 rwa [block_of_add] at this
theorem rd_on {w w' : World} {a : Addr} {x : D.Nm} (h : rd w a = some x) (hb : Below w.heap.size w w') : rd w' a = some x := (rd_to (hb.block _ (rd_lt h))).trans h
theorem rd_blk {w : World} {g : Nat} {t : TypeId} {x : D.Nm} (h : Blk w g t (nc x)) : rd w ⟨g, 0, none⟩ = some x := rd_of fun j u hu => by
 rw [World.news_of_block h.out j u]
 simpa [nc] using hu
theorem rd_new (w : World) (n : Nat) (t : TypeId) (x : D.Nm) (h : n = w.heap.size) : rd (w.alloc (.cells (nc x) t)) ⟨n, 0, none⟩ = some x := by
 subst h
 exact rd_blk (Blk.new w t (nc x))
theorem rd_old (w : World) (a : Addr) (o : Obj) (h : a.block < w.heap.size) : rd (w.alloc o) a = rd w a := rd_to (Below.heap_alloc w o _ h)
theorem rd_drew (w : World) (a : Addr) : rd w.drew a = rd w a := rd_to rfl
theorem rd_drewN (w : World) (a : Addr) (n : Nat) : rd (w.drewN n) a = rd w a := rd_to rfl
noncomputable def ld (t : TypeId) (v : Value) : Sem Value := Instr.loadAt t v
noncomputable def bad (t : TypeId) (a : Addr) (w : World) : Result Value := (Instr.loadAt t (.pointer (some a))).run Tryz.prog w
theorem ld_a (v : Value) : Instr.loadAt 38 v = ld 38 v := rfl
theorem ld_n (v : Value) : Instr.loadAt 39 v = ld 39 v := rfl
theorem run_load {w : World} {a : Addr} {x : D.Nm} (t : TypeId) (ht : t = 38 ∨ t = 39) (h : At w a x) : (Instr.loadAt t (.pointer (some a))).run Tryz.prog w = .ok (.agg (nc x)) w := by
 have hl := run_loadCells_list (P := Tryz.prog) w a (bys x.l) h
 rw [bys_len, x.len] at hl
 rcases ht with rfl | rfl
 ·simp only [Instr.loadAt, Instr.sureAddr, Sem.run_bind, Sem.run_pure, Result.andThen_ok, loadVar, Tryz.isAgg38, Tryz.sizeOf38, if_true, hl]
  rfl
 ·simp only [Instr.loadAt, Instr.sureAddr, Sem.run_bind, Sem.run_pure, Result.andThen_ok, loadVar, Tryz.isAgg39, Tryz.sizeOf39, if_true, hl]
  rfl
theorem run_ld (w : World) (a : Addr) (t : TypeId) (ht : t = 38 ∨ t = 39) : (ld t (.pointer (some a))).run Tryz.prog w = (rd w a).elim (bad t a w) fun x => .ok (.agg (nc x)) w := by
 cases h : rd w a with
 | none => rfl
 | some x => exact run_load t ht (at_of h)
theorem run_ld_a (w : World) (a : Addr) : (ld 38 (.pointer (some a))).run Tryz.prog w = (rd w a).elim (bad 38 a w) fun x => .ok (.agg (nc x)) w := run_ld w a _ (.inl rfl)
theorem run_ld_n (w : World) (a : Addr) : (ld 39 (.pointer (some a))).run Tryz.prog w = (rd w a).elim (bad 39 a w) fun x => .ok (.agg (nc x)) w := run_ld w a _ (.inr rfl)

noncomputable def st (t : TypeId) (p v : Value) : Sem Unit := Instr.storeAt t p v
theorem st_a (p v : Value) : Instr.storeAt 38 p v = st 38 p v := rfl
theorem st_n (p v : Value) : Instr.storeAt 39 p v = st 39 p v := rfl
theorem run_st_n (w : World) (n : Nat) (x : D.Nm) (h : n = w.heap.size) :
  (st 39 (.pointer (some ⟨n, 0, none⟩)) (.agg (nc x))).run Tryz.prog (w.alloc (.cells #[.int .u8 0, .int .u8 0, .int .u8 0, .int .u8 0, .int .u8 0, .int .u8 0, .int .u8 0, .int .u8 0, .int .u8 0, .int .u8 0, .int .u8 0, .int .u8 0] 39)) = .ok () (w.alloc (.cells (nc x) 39)) := by
 subst h
 exact run_storeAt_new (P := Tryz.prog) w 39 _ (nc x) (by rw [nc_size]; kernel_rfl) (by rw [nc_size]; rfl) (nc_one x)

noncomputable def eq12 (t : TypeId) (u v : Value) : Sem Value := binOp .eql t u v
noncomputable def ne12 (t : TypeId) (u v : Value) : Sem Value := binOp .neq t u v
theorem eq_a (u v : Value) : binOp .eql 38 u v = eq12 38 u v := rfl
theorem eq_n (u v : Value) : binOp .eql 39 u v = eq12 39 u v := rfl
theorem ne_a (u v : Value) : binOp .neq 38 u v = ne12 38 u v := rfl
theorem ne_n (u v : Value) : binOp .neq 39 u v = ne12 39 u v := rfl
def sm (x y : D.Nm) : Bool := decide (x = y)

theorem mapM_all {α β : Type} {g : α -> Option β} {h : α -> β} : ∀ l : List α, (∀ a ∈ l, g a = some (h a)) -> l.mapM g = some (l.map h)
 | [], _ => rfl
 | a :: l, hl => by
  rw [List.mapM_cons, hl a (by simp), mapM_all l fun b hb => hl b (by simp [hb])]
  rfl
theorem one_bys {l : List Nat} {i : Nat} (h : i < l.length) : ((bys l).drop i).take 1 = [.int .u8 ((l.getD i 0 : Nat) : Int)] := by
 apply List.ext_getElem?
 intro j
 cases j with
 | zero =>
  rw [List.getElem?_take_of_lt (by omega), List.getElem?_drop, Nat.add_zero]
  simp [bys, List.getElem?_eq_getElem h, List.getD]
 | succ j =>
  rw [List.getElem?_take_eq_none (by omega)]; rfl
theorem keyed_n : Tryz.prog.keyType 39 = true := by kernel_rfl
theorem keyed_a : Tryz.prog.keyType 38 = true := by kernel_rfl
theorem cells_u8 : Tryz.prog.cellsOf 5 = 1 := by kernel_rfl
theorem key_lits (x : D.Nm) (t : TypeId) (d : Nat) (hu : Tryz.prog.underlying t = some (.array 12 5)) (hc : Tryz.prog.cellsOf t = 12) : ∃ l, Tryz.prog.keyLits (d + 2) t (bys x.l) = some l := by
 have h12 : (bys x.l).length = 12 := by rw [bys_len, x.len]
 refine ⟨((List.range 12).map fun i => [Lit.int .u8 ((x.l.getD i 0 : Nat) : Int)]).flatten, ?_⟩
 have hm : (List.range 12).mapM (fun i => Tryz.prog.keyLits (d + 1) 5 (((bys x.l).drop (i * Tryz.prog.cellsOf 5)).take (Tryz.prog.cellsOf 5))) = some ((List.range 12).map fun i => [Lit.int .u8 ((x.l.getD i 0 : Nat) : Int)]) := by
  refine mapM_all _ fun i hi => ?_
  have hi' := List.mem_range.1 hi
  rw [cells_u8, Nat.mul_one, one_bys (by rw [x.len]; exact hi')]
  have hb : x.l.getD i 0 < 256 := by
   rw [List.getD, List.getElem?_eq_getElem (by rw [x.len]; exact hi')]
   exact x.lt _ (List.getElem_mem _)
  obtain ⟨b, hq⟩ : ∃ b, x.l.getD i 0 = b := ⟨_, rfl⟩
  rw [hq] at hb ⊢
  have hw : (Lit.int .u8 ((b : Nat) : Int)).wf = true := by
   simp [Lit.wf, IntKind.min, IntKind.max, IntKind.bits, IntKind.signed]
   omega
  unfold Program.keyLits
  rw [Tryz.underlying5]
  simp [hw]
 unfold Program.keyLits
 rw [hu]
 simp only [h12, hc, if_true, hm, Option.map_some]
theorem key_of (x : D.Nm) (t : TypeId) (ht : t = 38 ∨ t = 39) : ∃ l, keyOf Tryz.prog t (.agg (nc x)) = some l := by
 rcases ht with rfl | rfl
 ·obtain ⟨l, hl⟩ := key_lits x 38 (Tryz.prog.types.size - 1) Tryz.underlying38 (by kernel_rfl)
  refine ⟨.string (keyBytes l), ?_⟩
  unfold keyOf
  rw [Tryz.underlying38]
  have hs : ((bys x.l).toArray.size == Tryz.prog.cellsOf 38) = true := by
   rw [show (bys x.l).toArray.size = 12 from nc_size x, show Tryz.prog.cellsOf 38 = 12 by kernel_rfl]; rfl
  simp only [keyed_a, Value.formed, Tryz.underlying38, Value.cells, nc, Bool.true_and, hs, if_true]
  rw [show Tryz.prog.types.size + 1 = Tryz.prog.types.size - 1 + 2 by kernel_rfl, hl]
  rfl
 ·obtain ⟨l, hl⟩ := key_lits x 39 (Tryz.prog.types.size - 1) Tryz.underlying39 (by kernel_rfl)
  refine ⟨.string (keyBytes l), ?_⟩
  unfold keyOf
  rw [Tryz.underlying39]
  have hs : ((bys x.l).toArray.size == Tryz.prog.cellsOf 39) = true := by
   rw [show (bys x.l).toArray.size = 12 from nc_size x, show Tryz.prog.cellsOf 39 = 12 by kernel_rfl]; rfl
  simp only [keyed_n, Value.formed, Tryz.underlying39, Value.cells, nc, Bool.true_and, hs, if_true]
  rw [show Tryz.prog.types.size + 1 = Tryz.prog.types.size - 1 + 2 by kernel_rfl, hl]
  rfl
theorem laid_out : laidOutB Tryz.prog = true := by kernel_rfl
theorem law_n : Maps.Keyed Tryz.prog 39 := Maps.Keyed.of_law (deep_law_laid laid_out (m := 3) (by omega) (of_decide_eq_true (by kernel_rfl)) (by kernel_rfl) (by rw [Tryz.underlying39]))
theorem law_a : Maps.Keyed Tryz.prog 38 := Maps.Keyed.of_law (deep_law_laid laid_out (m := 3) (by omega) (of_decide_eq_true (by kernel_rfl)) (by kernel_rfl) (by rw [Tryz.underlying38]))
theorem run_equal (t : TypeId) (ht : t = 38 ∨ t = 39) (x y : D.Nm) (w : World) : (Op.equal t (.agg (nc x)) (.agg (nc y))).run Tryz.prog w = .ok (sm x y) w := by
 obtain ⟨lx, hx⟩ := key_of x t ht
 obtain ⟨ly, hy⟩ := key_of y t ht
 have hk : Tryz.prog.keyTypeAt 3 t = true := by rcases ht with rfl | rfl <;> kernel_rfl
 have hw : (match Tryz.prog.underlying t with | some (.array _ _) | some (.struct _) => true | _ => false) = true := by
  rcases ht with rfl | rfl
  ·rw [Tryz.underlying38]
  ·rw [Tryz.underlying39]
 have K : Maps.Keyed Tryz.prog t := by rcases ht with rfl | rfl; exact law_a; exact law_n
 obtain ⟨r, hr, hiff⟩ := run_equal_deep (P := Tryz.prog) w (m := 3) (by omega) hk hw hx hy
 rw [hr]
 congr 1
 have : (r = true) ↔ x = y := by
  rw [hiff]
  constructor
  ·intro e
   subst e
   have := K.inj hx hy
   injection this with this
   exact nc_inj this
  ·intro e
   subst e
   rw [hx] at hy
   injection hy
 unfold sm
 cases r
 ·symm; simpa using this
 ·symm; simpa using this
theorem run_eq (w : World) (t : TypeId) (ht : t = 38 ∨ t = 39) (x y : D.Nm) : (eq12 t (.agg (nc x)) (.agg (nc y))).run Tryz.prog w = .ok (.bool (sm x y)) w := by
 simp only [eq12, binOp]
 rw [Sem.run_bind, run_equal t ht]
 rfl
theorem run_ne (w : World) (t : TypeId) (ht : t = 38 ∨ t = 39) (x y : D.Nm) : (ne12 t (.agg (nc x)) (.agg (nc y))).run Tryz.prog w = .ok (.bool (!sm x y)) w := by
 simp only [ne12, binOp]
 rw [Sem.run_bind, run_equal t ht]
 rfl
theorem run_eq_a (w : World) (x y : D.Nm) : (eq12 38 (.agg (nc x)) (.agg (nc y))).run Tryz.prog w = .ok (.bool (sm x y)) w := run_eq w _ (.inl rfl) x y
theorem run_eq_n (w : World) (x y : D.Nm) : (eq12 39 (.agg (nc x)) (.agg (nc y))).run Tryz.prog w = .ok (.bool (sm x y)) w := run_eq w _ (.inr rfl) x y
theorem run_ne_a (w : World) (x y : D.Nm) : (ne12 38 (.agg (nc x)) (.agg (nc y))).run Tryz.prog w = .ok (.bool (!sm x y)) w := run_ne w _ (.inl rfl) x y
theorem run_ne_n (w : World) (x y : D.Nm) : (ne12 39 (.agg (nc x)) (.agg (nc y))).run Tryz.prog w = .ok (.bool (!sm x y)) w := run_ne w _ (.inr rfl) x y
end Go.Proofs.YtgnjjlgmlokhmaaGreatDoor.Nm
