/-
  
-/
import Derived.Test.YtjlaffgbmcpldaaGreatDoorG00
import Derived.Test.YtjlaffgbmcpldaaGreatDoorMem
import Derived.Test.YtjlaffgbmcpldaaGreatDoorRow
import Derived.Deep.MidRow
import Derived.Deep.WholeRow
import Derived.Laws.StructEq
import Derived.DeepKeys4
import Derived.Maps.OwnSet
import Derived.KernelRfl
set_option linter.unusedVariables false
set_option linter.unusedSimpArgs false
set_option maxRecDepth 100000
namespace Go.Proofs.YtjlaffgbmcpldaaGreatDoor.Nm
namespace D
open Go.Proofs.YtjlaffgbmcpldaaGreatDoor.D (ns sb ns_len ns_lt sb_ns ns_sb sb_len ns_inj)

def cmp : List Nat → List Nat → Int
 | [], [] => 0
 | [], _ :: _ => -1
 | _ :: _, [] => 1
 | x :: a, y :: b => if x = y then cmp a b else if x < y then -1 else 1
def letB (c : Nat) : Bool := decide (97 ≤ c) && decide (c ≤ 122)
def mayB (c : Nat) : Bool := letB c || (decide (48 ≤ c) && decide (c ≤ 57)) || decide (c = 45) || decide (c = 95) || decide (c = 46)
def isB (t : List Nat) : Bool := decide (1 ≤ t.length) && decide (t.length ≤ 12) && letB (t.getD 0 0) && t.all mayB
theorem isB_iff {t : List Nat} : isB t = true ↔ 1 ≤ t.length ∧ t.length ≤ 12 ∧ letB (t.getD 0 0) = true ∧ ∀ c ∈ t, mayB c = true := by
 simp [isB, and_assoc]

structure Nm where
 l : List Nat
 len : l.length = 12
 lt : ∀ b ∈ l, b < 256
theorem Nm.eq {x y : Nm} (h : x.l = y.l) : x = y := by
 cases x; cases y; simp only at h; subst h; rfl
theorem Nm.eq_iff {x y : Nm} : x = y ↔ x.l = y.l := ⟨fun h => by rw [h], Nm.eq⟩
instance : DecidableEq Nm := fun x y => decidable_of_iff (x.l = y.l) Nm.eq_iff.symm
def zero : Nm := ⟨List.replicate 12 0, by simp, by intro b hb; have := (List.mem_replicate.1 hb).2; omega⟩
instance : Inhabited Nm := ⟨zero⟩

def padl (t : List Nat) (k : Nat) : List Nat := (t.take k ++ List.replicate 12 0).take 12
theorem padl_len (t : List Nat) (k : Nat) : (padl t k).length = 12 := by simp [padl]
theorem padl_lt {t : List Nat} (h : ∀ b ∈ t, b < 256) (k : Nat) : ∀ b ∈ padl t k, b < 256 := by
 intro b hb
 rcases List.mem_append.1 (List.mem_of_mem_take hb) with hb | hb
 ·exact h b (List.mem_of_mem_take hb)
 ·have := (List.mem_replicate.1 hb).2; omega
theorem padl_zero (t : List Nat) : padl t 0 = List.replicate 12 0 := by simp [padl]
theorem padl_next {t : List Nat} {k b : Nat} (hb : t[k]? = some b) (hk : k < 12) : (padl t k).set k b = padl t (k + 1) := by
 obtain ⟨hl, he⟩ := List.getElem?_eq_some_iff.1 hb
 apply List.ext_getElem?
 intro i
 rw [List.getElem?_set, padl_len]
 by_cases hik : k = i
 ·subst hik
  rw [if_pos rfl, if_pos hk]
  simp only [padl]
  rw [List.getElem?_take_of_lt hk, List.getElem?_append_left (by simp; omega), List.getElem?_take_of_lt (by omega), hb]
 ·rw [if_neg hik]
  simp only [padl]
  by_cases hi : i < 12
  ·rw [List.getElem?_take_of_lt hi, List.getElem?_take_of_lt hi]
   by_cases h2 : i < k
   ·rw [List.getElem?_append_left (by simp; omega), List.getElem?_append_left (by simp; omega), List.getElem?_take_of_lt h2, List.getElem?_take_of_lt (by omega)]
   ·rw [List.getElem?_append_right (by simp; omega), List.getElem?_append_right (by simp; omega)]
    simp only [List.length_take, List.getElem?_replicate]
    rw [if_pos (by omega), if_pos (by omega)]
  ·rw [List.getElem?_take_eq_none (by omega), List.getElem?_take_eq_none (by omega)]
theorem padl_all {t : List Nat} (k : Nat) (h : t.length ≤ k) : padl t k = padl t t.length := by simp [padl, List.take_of_length_le h]
def padN (t : List Nat) (h : ∀ b ∈ t, b < 256) : Nm := ⟨padl t 12, padl_len t 12, padl_lt h 12⟩
def pad (s : ByteArray) : Nm := padN (ns s) (ns_lt s)
def hd (l : List Nat) : List Nat := l.takeWhile (fun b => decide (b ≠ 0))
theorem hd_le (l : List Nat) : (hd l).length ≤ l.length := (List.takeWhile_sublist _).length_le
theorem hd_mem {l : List Nat} {b : Nat} (h : b ∈ hd l) : b ∈ l := (List.takeWhile_sublist _).subset h
def hdp (x : Nm) : Nm := padN (hd x.l) fun b hb => x.lt b (hd_mem hb)
def right (x : Nm) : Bool := isB (hd x.l) && decide (hdp x = x)
def txt (x : Nm) : List Nat := if right x then hd x.l else []
def less (x y : Nm) : Bool := decide (cmp x.l y.l = -1)
def ins (l : List Nm) (n : Nm) : List Nm := l.takeWhile (fun y => !less n y) ++ n :: l.dropWhile (fun y => !less n y)
def Srt (l : List Nm) : Prop := l.Pairwise fun x y => less y x = false
def cnt (l : List Nm) (n : Nm) : Nat := l.countP (fun x => decide (x = n))
theorem cnt_le (l : List Nm) (n : Nm) : cnt l n ≤ l.length := List.countP_le_length
end D
end Go.Proofs.YtjlaffgbmcpldaaGreatDoor.Nm
namespace Go.Proofs.YtjlaffgbmcpldaaGreatDoor.Nm
open Go.RowKit

def nc (x : D.Nm) : Array Value := (bys x.l).toArray
theorem nc_size (x : D.Nm) : (nc x).size = 12 := by simp [nc, bys_len, x.len]
theorem bys_inj {l k : List Nat} (h : bys l = bys k) : l = k := by
 induction l generalizing k with
 | nil => cases k with
  | nil => rfl
  | cons b k => simp [bys] at h
 | cons a l ih => cases k with
  | nil => simp [bys] at h
  | cons b k =>
   simp only [bys, List.map_cons, List.cons.injEq, Value.int.injEq, true_and] at h
   obtain ⟨h1, h2⟩ := h
   rw [ih h2, show a = b by omega]
theorem nc_inj {x y : D.Nm} (h : nc x = nc y) : x = y := D.Nm.eq (bys_inj (by simpa [nc] using h))
theorem nc_one (x : D.Nm) : (nc x).all (·.oneCell') = true := all_oneCell_toArray (bys_one x.l)
def At (w : World) (a : Addr) (x : D.Nm) : Prop := ∀ j u, (bys x.l)[j]? = some u → w.cell? (a.add j) = some u
theorem At.one {w : World} {a : Addr} {x y : D.Nm} (h : At w a x) (k : At w a y) : x = y := by
 refine D.Nm.eq (bys_inj (List.ext_getElem? fun j => ?_))
 by_cases hj : j < 12
 ·have e1 : (bys x.l)[j]? = some ((bys x.l)[j]'(by rw [bys_len, x.len]; exact hj)) := List.getElem?_eq_getElem _
  have e2 : (bys y.l)[j]? = some ((bys y.l)[j]'(by rw [bys_len, y.len]; exact hj)) := List.getElem?_eq_getElem _
  have := (h j _ e1).symm.trans (k j _ e2)
  rw [e1, e2, this]
 ·rw [List.getElem?_eq_none (by rw [bys_len, x.len]; omega), List.getElem?_eq_none (by rw [bys_len, y.len]; omega)]
open Classical in
noncomputable def rd (w : World) (a : Addr) : Option D.Nm := if h : ∃ x, At w a x then some (Classical.choose h) else none
theorem rd_of {w : World} {a : Addr} {x : D.Nm} (h : At w a x) : rd w a = some x := by
 have hx : ∃ x, At w a x := ⟨x, h⟩
 rw [rd, dif_pos hx, (Classical.choose_spec hx).one h]
theorem at_of {w : World} {a : Addr} {x : D.Nm} (h : rd w a = some x) : At w a x := by
 unfold rd at h
 split at h
 ·rename_i hx
  injection h with h
  rw [← h]
  exact Classical.choose_spec hx
 ·cases h
theorem At.tow {w w' : World} {a : Addr} {x : D.Nm} (h : At w a x) (hk : w'.heap[a.block]? = w.heap[a.block]?) : At w' a x := fun j u hu =>
 (World.cell?_of_block (w := w) (by rw [block_of_add]; exact hk)).trans (h j u hu)
theorem rd_to {w w' : World} {a : Addr} (hk : w'.heap[a.block]? = w.heap[a.block]?) : rd w' a = rd w a := by
 by_cases h : ∃ x, At w a x
 ·obtain ⟨x, hx⟩ := h
  rw [rd_of hx, rd_of (hx.tow hk)]
 ·have h' : ¬ ∃ x, At w' a x := fun ⟨x, hx⟩ => h ⟨x, hx.tow hk.symm⟩
  rw [rd, rd, dif_neg h, dif_neg h']
theorem rd_lt {w : World} {a : Addr} {x : D.Nm} (h : rd w a = some x) : a.block < w.heap.size := by
 have e1 : (bys x.l)[0]? = some ((bys x.l)[0]'(by rw [bys_len, x.len]; decide)) := List.getElem?_eq_getElem _
 have := World.block_lt_of_cell? w _ (at_of h 0 _ e1)
 rwa [block_of_add] at this
theorem rd_on {w w' : World} {a : Addr} {x : D.Nm} (h : rd w a = some x) (hb : Below w.heap.size w w') : rd w' a = some x := (rd_to (hb.block _ (rd_lt h))).trans h
theorem rd_blk {w : World} {g : Nat} {t : TypeId} {x : D.Nm} (h : Blk w g t (nc x)) : rd w ⟨g, 0, none⟩ = some x := rd_of fun j u hu => by
 rw [World.news_of_block h.out j u]
 simpa [nc] using hu
theorem rd_new (w : World) (n : Nat) (t : TypeId) (x : D.Nm) (h : n = w.heap.size) : rd (w.alloc (.cells (nc x) t)) ⟨n, 0, none⟩ = some x := by
 subst h
 exact rd_blk (Blk.new w t (nc x))
theorem rd_old (w : World) (a : Addr) (o : Obj) (h : a.block < w.heap.size) : rd (w.alloc o) a = rd w a := rd_to (Below.heap_alloc w o _ h)
theorem rd_drew (w : World) (a : Addr) : rd w.drew a = rd w a := rd_to rfl
theorem rd_drewN (w : World) (a : Addr) (n : Nat) : rd (w.drewN n) a = rd w a := rd_to rfl
theorem rd_setCell (w : World) (a p : Addr) (u : Value) (h : a.block ≠ p.block) : rd (w.setCell p u) a = rd w a := rd_to (Below.heap_setCell w p u _ h)

noncomputable def ld (t : TypeId) (v : Value) : Sem Value := Instr.loadAt t v
noncomputable def bad (t : TypeId) (a : Addr) (w : World) : Result Value := (Instr.loadAt t (.pointer (some a))).run Tryz.prog w
theorem ld_a (v : Value) : Instr.loadAt 32 v = ld 32 v := rfl
theorem ld_n (v : Value) : Instr.loadAt 33 v = ld 33 v := rfl
theorem run_load {w : World} {a : Addr} {x : D.Nm} (t : TypeId) (ht : t = 32 ∨ t = 33) (h : At w a x) : (Instr.loadAt t (.pointer (some a))).run Tryz.prog w = .ok (.agg (nc x)) w := by
 have hl := run_loadCells_list (P := Tryz.prog) w a (bys x.l) h
 rw [bys_len, x.len] at hl
 rcases ht with rfl | rfl
 ·simp only [Instr.loadAt, Instr.sureAddr, Sem.run_bind, Sem.run_pure, Result.andThen_ok, loadVar, Tryz.isAgg32, Tryz.sizeOf32, if_true, hl]
  rfl
 ·simp only [Instr.loadAt, Instr.sureAddr, Sem.run_bind, Sem.run_pure, Result.andThen_ok, loadVar, Tryz.isAgg33, Tryz.sizeOf33, if_true, hl]
  rfl
theorem run_ld (w : World) (a : Addr) (t : TypeId) (ht : t = 32 ∨ t = 33) : (ld t (.pointer (some a))).run Tryz.prog w = (rd w a).elim (bad t a w) fun x => .ok (.agg (nc x)) w := by
 cases h : rd w a with
 | none => rfl
 | some x => exact run_load t ht (at_of h)
theorem run_ld_a (w : World) (a : Addr) : (ld 32 (.pointer (some a))).run Tryz.prog w = (rd w a).elim (bad 32 a w) fun x => .ok (.agg (nc x)) w := run_ld w a _ (.inl rfl)
theorem run_ld_n (w : World) (a : Addr) : (ld 33 (.pointer (some a))).run Tryz.prog w = (rd w a).elim (bad 33 a w) fun x => .ok (.agg (nc x)) w := run_ld w a _ (.inr rfl)

noncomputable def st (t : TypeId) (p v : Value) : Sem Unit := Instr.storeAt t p v
theorem st_a (p v : Value) : Instr.storeAt 32 p v = st 32 p v := rfl
theorem st_n (p v : Value) : Instr.storeAt 33 p v = st 33 p v := rfl
theorem run_st_n (w : World) (n : Nat) (x : D.Nm) (h : n = w.heap.size) :
  (st 33 (.pointer (some ⟨n, 0, none⟩)) (.agg (nc x))).run Tryz.prog (w.alloc (.cells #[.int .u8 0, .int .u8 0, .int .u8 0, .int .u8 0, .int .u8 0, .int .u8 0, .int .u8 0, .int .u8 0, .int .u8 0, .int .u8 0, .int .u8 0, .int .u8 0] 33)) = .ok () (w.alloc (.cells (nc x) 33)) := by
 subst h
 exact run_storeAt_new (P := Tryz.prog) w 33 _ (nc x) (by rw [nc_size]; kernel_rfl) (by rw [nc_size]; rfl) (nc_one x)

noncomputable def eq12 (t : TypeId) (u v : Value) : Sem Value := binOp .eql t u v
noncomputable def ne12 (t : TypeId) (u v : Value) : Sem Value := binOp .neq t u v
theorem eq_a (u v : Value) : binOp .eql 32 u v = eq12 32 u v := rfl
theorem eq_n (u v : Value) : binOp .eql 33 u v = eq12 33 u v := rfl
theorem ne_a (u v : Value) : binOp .neq 32 u v = ne12 32 u v := rfl
theorem ne_n (u v : Value) : binOp .neq 33 u v = ne12 33 u v := rfl
def sm (x y : D.Nm) : Bool := decide (x = y)

theorem mapM_all {α β : Type} {g : α → Option β} {h : α → β} : ∀ l : List α, (∀ a ∈ l, g a = some (h a)) → l.mapM g = some (l.map h)
 | [], _ => rfl
 | a :: l, hl => by
  rw [List.mapM_cons, hl a (by simp), mapM_all l fun b hb => hl b (by simp [hb])]
  rfl
theorem one_bys {l : List Nat} {i : Nat} (h : i < l.length) : ((bys l).drop i).take 1 = [.int .u8 ((l.getD i 0 : Nat) : Int)] := by
 apply List.ext_getElem?
 intro j
 cases j with
 | zero =>
  rw [List.getElem?_take_of_lt (by omega), List.getElem?_drop, Nat.add_zero]
  simp [bys, List.getElem?_eq_getElem h, List.getD]
 | succ j =>
  rw [List.getElem?_take_eq_none (by omega)]; rfl
theorem keyed_n : Tryz.prog.keyType 33 = true := by kernel_rfl
theorem keyed_a : Tryz.prog.keyType 32 = true := by kernel_rfl
theorem cells_u8 : Tryz.prog.cellsOf 5 = 1 := by kernel_rfl
theorem key_lits (x : D.Nm) (t : TypeId) (d : Nat) (hu : Tryz.prog.underlying t = some (.array 12 5)) (hc : Tryz.prog.cellsOf t = 12) : ∃ l, Tryz.prog.keyLits (d + 2) t (bys x.l) = some l := by
 have h12 : (bys x.l).length = 12 := by rw [bys_len, x.len]
 refine ⟨((List.range 12).map fun i => [Lit.int .u8 ((x.l.getD i 0 : Nat) : Int)]).flatten, ?_⟩
 have hm : (List.range 12).mapM (fun i => Tryz.prog.keyLits (d + 1) 5 (((bys x.l).drop (i * Tryz.prog.cellsOf 5)).take (Tryz.prog.cellsOf 5))) = some ((List.range 12).map fun i => [Lit.int .u8 ((x.l.getD i 0 : Nat) : Int)]) := by
  refine mapM_all _ fun i hi => ?_
  have hi' := List.mem_range.1 hi
  rw [cells_u8, Nat.mul_one, one_bys (by rw [x.len]; exact hi')]
  have hb : x.l.getD i 0 < 256 := by
   rw [List.getD, List.getElem?_eq_getElem (by rw [x.len]; exact hi')]
   exact x.lt _ (List.getElem_mem _)
  obtain ⟨b, hq⟩ : ∃ b, x.l.getD i 0 = b := ⟨_, rfl⟩
  rw [hq] at hb ⊢
  have hw : (Lit.int .u8 ((b : Nat) : Int)).wf = true := by
   simp [Lit.wf, IntKind.min, IntKind.max, IntKind.bits, IntKind.signed]
   omega
  unfold Program.keyLits
  rw [Tryz.underlying5]
  simp [hw]
 unfold Program.keyLits
 rw [hu]
 simp only [h12, hc, if_true, hm, Option.map_some]
theorem key_of (x : D.Nm) (t : TypeId) (ht : t = 32 ∨ t = 33) : ∃ l, keyOf Tryz.prog t (.agg (nc x)) = some l := by
 rcases ht with rfl | rfl
 ·obtain ⟨l, hl⟩ := key_lits x 32 (Tryz.prog.types.size - 1) Tryz.underlying32 (by kernel_rfl)
  refine ⟨.string (keyBytes l), ?_⟩
  unfold keyOf
  rw [Tryz.underlying32]
  have hs : ((bys x.l).toArray.size == Tryz.prog.cellsOf 32) = true := by
   rw [show (bys x.l).toArray.size = 12 from nc_size x, show Tryz.prog.cellsOf 32 = 12 by kernel_rfl]; rfl
  simp only [keyed_a, Value.formed, Tryz.underlying32, Value.cells, nc, Bool.true_and, hs, if_true]
  rw [show Tryz.prog.types.size + 1 = Tryz.prog.types.size - 1 + 2 by kernel_rfl, hl]
  rfl
 ·obtain ⟨l, hl⟩ := key_lits x 33 (Tryz.prog.types.size - 1) Tryz.underlying33 (by kernel_rfl)
  refine ⟨.string (keyBytes l), ?_⟩
  unfold keyOf
  rw [Tryz.underlying33]
  have hs : ((bys x.l).toArray.size == Tryz.prog.cellsOf 33) = true := by
   rw [show (bys x.l).toArray.size = 12 from nc_size x, show Tryz.prog.cellsOf 33 = 12 by kernel_rfl]; rfl
  simp only [keyed_n, Value.formed, Tryz.underlying33, Value.cells, nc, Bool.true_and, hs, if_true]
  rw [show Tryz.prog.types.size + 1 = Tryz.prog.types.size - 1 + 2 by kernel_rfl, hl]
  rfl
theorem laid_out : laidOutB Tryz.prog = true := by kernel_rfl
theorem law_n : Maps.Keyed Tryz.prog 33 := Maps.Keyed.of_law (deep_law_laid laid_out (m := 3) (by omega) (of_decide_eq_true (by kernel_rfl)) (by kernel_rfl) (by rw [Tryz.underlying33]))
theorem law_a : Maps.Keyed Tryz.prog 32 := Maps.Keyed.of_law (deep_law_laid laid_out (m := 3) (by omega) (of_decide_eq_true (by kernel_rfl)) (by kernel_rfl) (by rw [Tryz.underlying32]))
theorem run_equal (t : TypeId) (ht : t = 32 ∨ t = 33) (x y : D.Nm) (w : World) : (Op.equal t (.agg (nc x)) (.agg (nc y))).run Tryz.prog w = .ok (sm x y) w := by
 obtain ⟨lx, hx⟩ := key_of x t ht
 obtain ⟨ly, hy⟩ := key_of y t ht
 have hk : Tryz.prog.keyTypeAt 3 t = true := by rcases ht with rfl | rfl <;> kernel_rfl
 have hw : (match Tryz.prog.underlying t with | some (.array _ _) | some (.struct _) => true | _ => false) = true := by
  rcases ht with rfl | rfl
  ·rw [Tryz.underlying32]
  ·rw [Tryz.underlying33]
 have K : Maps.Keyed Tryz.prog t := by rcases ht with rfl | rfl; exact law_a; exact law_n
 obtain ⟨r, hr, hiff⟩ := run_equal_deep (P := Tryz.prog) w (m := 3) (by omega) hk hw hx hy
 rw [hr]
 congr 1
 have : (r = true) ↔ x = y := by
  rw [hiff]
  constructor
  ·intro e
   subst e
   have := K.inj hx hy
   injection this with this
   exact nc_inj this
  ·intro e
   subst e
   rw [hx] at hy
   injection hy
 unfold sm
 cases r
 ·symm; simpa using this
 ·symm; simpa using this
theorem run_eq (w : World) (t : TypeId) (ht : t = 32 ∨ t = 33) (x y : D.Nm) : (eq12 t (.agg (nc x)) (.agg (nc y))).run Tryz.prog w = .ok (.bool (sm x y)) w := by
 simp only [eq12, binOp]
 rw [Sem.run_bind, run_equal t ht]
 rfl
theorem run_ne (w : World) (t : TypeId) (ht : t = 32 ∨ t = 33) (x y : D.Nm) : (ne12 t (.agg (nc x)) (.agg (nc y))).run Tryz.prog w = .ok (.bool (!sm x y)) w := by
 simp only [ne12, binOp]
 rw [Sem.run_bind, run_equal t ht]
 rfl
theorem run_eq_a (w : World) (x y : D.Nm) : (eq12 32 (.agg (nc x)) (.agg (nc y))).run Tryz.prog w = .ok (.bool (sm x y)) w := run_eq w _ (.inl rfl) x y
theorem run_eq_n (w : World) (x y : D.Nm) : (eq12 33 (.agg (nc x)) (.agg (nc y))).run Tryz.prog w = .ok (.bool (sm x y)) w := run_eq w _ (.inr rfl) x y
theorem run_ne_a (w : World) (x y : D.Nm) : (ne12 32 (.agg (nc x)) (.agg (nc y))).run Tryz.prog w = .ok (.bool (!sm x y)) w := run_ne w _ (.inl rfl) x y
theorem run_ne_n (w : World) (x y : D.Nm) : (ne12 33 (.agg (nc x)) (.agg (nc y))).run Tryz.prog w = .ok (.bool (!sm x y)) w := run_ne w _ (.inr rfl) x y
end Go.Proofs.YtjlaffgbmcpldaaGreatDoor.Nm
