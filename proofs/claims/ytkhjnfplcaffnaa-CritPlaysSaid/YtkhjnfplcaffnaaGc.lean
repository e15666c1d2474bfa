/-
  Words for names in memory: a name's twelve cells, what lies at an address, rows of names; loads, stores, comparisons and appends of whole names.
  Rows of names in memory; a slice of names that the call made; append.
-/
import Derived.Test.YtkhjnfplcaffnaaMem
import Derived.Test.YtkhjnfplcaffnaaGb
import Derived.Test.YtkhjnfplcaffnaaGa
import Derived.Deep.MidRow
import Derived.Deep.WholeRow
import Derived.Laws.StructEq
import Derived.DeepKeys4
import Derived.Maps.OwnSet
import Derived.KernelRfl
import Derived.Laws.ResultCell
import Derived.Laws.Rows
set_option linter.unusedVariables false
set_option linter.unusedSimpArgs false
set_option maxRecDepth 100000
namespace Go.Proofs.Ytkhjnfplcaffnaa.Nm
open Go.RowKit

/-- A name's cells. -/
def nc (x : D.Nm) : Array Value := (bys x.l).toArray
theorem nc_size (x : D.Nm) : (nc x).size = 12 := by simp [nc, bys_len, x.len]
theorem bys_inj {l k : List Nat} (h : bys l = bys k) : l = k := by
  induction l generalizing k with
  | nil => cases k with
    | nil => rfl
    | cons b k => simp [bys] at h
  | cons a l ih => cases k with
    | nil => simp [bys] at h
    | cons b k =>
      simp only [bys, List.map_cons, List.cons.injEq, Value.int.injEq, true_and] at h
      obtain ⟨h1, h2⟩ := h
      rw [ih h2, show a = b by omega]
theorem nc_inj {x y : D.Nm} (h : nc x = nc y) : x = y := D.Nm.eq (bys_inj (by simpa [nc] using h))
theorem nc_one (x : D.Nm) : (nc x).all (·.oneCell') = true := all_oneCell_toArray (bys_one x.l)
theorem nc_zero : nc D.zero = #[.int .u8 0, .int .u8 0, .int .u8 0, .int .u8 0, .int .u8 0, .int .u8 0, .int .u8 0, .int .u8 0, .int .u8 0, .int .u8 0, .int .u8 0, .int .u8 0] := rfl

/-- At this address lies this name. -/
def At (w : World) (a : Addr) (x : D.Nm) : Prop := ∀ j u, (bys x.l)[j]? = some u → w.cell? (a.add j) = some u
theorem At.one {w : World} {a : Addr} {x y : D.Nm} (h : At w a x) (k : At w a y) : x = y := by
  refine D.Nm.eq (bys_inj (List.ext_getElem? fun j => ?_))
  by_cases hj : j < 12
  · have e1 : (bys x.l)[j]? = some ((bys x.l)[j]'(by rw [bys_len, x.len]; exact hj)) := List.getElem?_eq_getElem _
    have e2 : (bys y.l)[j]? = some ((bys y.l)[j]'(by rw [bys_len, y.len]; exact hj)) := List.getElem?_eq_getElem _
    have := (h j _ e1).symm.trans (k j _ e2)
    rw [e1, e2, this]
  · rw [List.getElem?_eq_none (by rw [bys_len, x.len]; omega), List.getElem?_eq_none (by rw [bys_len, y.len]; omega)]
open Classical in
/-- The name that lies at an address. -/
noncomputable def rd (w : World) (a : Addr) : Option D.Nm := if h : ∃ x, At w a x then some (Classical.choose h) else none
theorem rd_of {w : World} {a : Addr} {x : D.Nm} (h : At w a x) : rd w a = some x := by
  have hx : ∃ x, At w a x := ⟨x, h⟩
  rw [rd, dif_pos hx, (Classical.choose_spec hx).one h]
theorem at_of {w : World} {a : Addr} {x : D.Nm} (h : rd w a = some x) : At w a x := by
  unfold rd at h
  split at h
  · rename_i hx
    injection h with h
    rw [← h]
    exact Classical.choose_spec hx
  · cases h
theorem At.tow {w w' : World} {a : Addr} {x : D.Nm} (h : At w a x) (hk : w'.heap[a.block]? = w.heap[a.block]?) : At w' a x := fun j u hu =>
  (World.cell?_of_block (w := w) (by rw [block_of_add]; exact hk)).trans (h j u hu)
theorem rd_to {w w' : World} {a : Addr} (hk : w'.heap[a.block]? = w.heap[a.block]?) : rd w' a = rd w a := by
  by_cases h : ∃ x, At w a x
  · obtain ⟨x, hx⟩ := h
    rw [rd_of hx, rd_of (hx.tow hk)]
  · have h' : ¬ ∃ x, At w' a x := fun ⟨x, hx⟩ => h ⟨x, hx.tow hk.symm⟩
    rw [rd, rd, dif_neg h, dif_neg h']
theorem rd_lt {w : World} {a : Addr} {x : D.Nm} (h : rd w a = some x) : a.block < w.heap.size := by
  have e1 : (bys x.l)[0]? = some ((bys x.l)[0]'(by rw [bys_len, x.len]; decide)) := List.getElem?_eq_getElem _
  have := World.block_lt_of_cell? w _ (at_of h 0 _ e1)
  rwa [block_of_add] at this
theorem rd_on {w w' : World} {a : Addr} {x : D.Nm} (h : rd w a = some x) (hb : Below w.heap.size w w') : rd w' a = some x := (rd_to (hb.block _ (rd_lt h))).trans h
theorem rd_blk {w : World} {g : Nat} {t : TypeId} {x : D.Nm} (h : Blk w g t (nc x)) : rd w ⟨g, 0, none⟩ = some x := rd_of fun j u hu => by
  rw [World.news_of_block h.out j u]
  simpa [nc] using hu
theorem blk_on {w w' : World} {g : Nat} {t : TypeId} {cs : Array Value} (h : Blk w g t cs) (hb : Below w.heap.size w w') : Blk w' g t cs := h.on hb

theorem rd_new (w : World) (n : Nat) (t : TypeId) (x : D.Nm) (h : n = w.heap.size) : rd (w.alloc (.cells (nc x) t)) ⟨n, 0, none⟩ = some x := by
  subst h
  exact rd_blk (Blk.new w t (nc x))
theorem rd_old (w : World) (a : Addr) (o : Obj) (h : a.block < w.heap.size) : rd (w.alloc o) a = rd w a := rd_to (Below.heap_alloc w o _ h)
theorem rd_drew (w : World) (a : Addr) : rd w.drew a = rd w a := rd_to rfl
theorem rd_drewN (w : World) (a : Addr) (n : Nat) : rd (w.drewN n) a = rd w a := rd_to rfl
theorem rd_setCell (w : World) (a p : Addr) (u : Value) (h : a.block ≠ p.block) : rd (w.setCell p u) a = rd w a := rd_to (Below.heap_setCell w p u _ h)

/-- The whole name out of its variable. -/
noncomputable def ld (t : TypeId) (v : Value) : Sem Value := Instr.loadAt t v
noncomputable def bad (t : TypeId) (a : Addr) (w : World) : Result Value := (Instr.loadAt t (.pointer (some a))).run Try.prog w
theorem ld_a (v : Value) : Instr.loadAt 23 v = ld 23 v := rfl
theorem ld_n (v : Value) : Instr.loadAt 24 v = ld 24 v := rfl
theorem run_load {w : World} {a : Addr} {x : D.Nm} (t : TypeId) (ht : t = 23 ∨ t = 24) (h : At w a x) : (Instr.loadAt t (.pointer (some a))).run Try.prog w = .ok (.agg (nc x)) w := by
  have hl := run_loadCells_list (P := Try.prog) w a (bys x.l) h
  rw [bys_len, x.len] at hl
  rcases ht with rfl | rfl
  · simp only [Instr.loadAt, Instr.sureAddr, Sem.run_bind, Sem.run_pure, Result.andThen_ok, loadVar, Try.isAgg23, Try.sizeOf23, if_true, hl]
    rfl
  · simp only [Instr.loadAt, Instr.sureAddr, Sem.run_bind, Sem.run_pure, Result.andThen_ok, loadVar, Try.isAgg24, Try.sizeOf24, if_true, hl]
    rfl
theorem run_ld (w : World) (a : Addr) (t : TypeId) (ht : t = 23 ∨ t = 24) : (ld t (.pointer (some a))).run Try.prog w = (rd w a).elim (bad t a w) fun x => .ok (.agg (nc x)) w := by
  cases h : rd w a with
  | none => rfl
  | some x => exact run_load t ht (at_of h)
theorem run_ld_a (w : World) (a : Addr) : (ld 23 (.pointer (some a))).run Try.prog w = (rd w a).elim (bad 23 a w) fun x => .ok (.agg (nc x)) w := run_ld w a _ (.inl rfl)
theorem run_ld_n (w : World) (a : Addr) : (ld 24 (.pointer (some a))).run Try.prog w = (rd w a).elim (bad 24 a w) fun x => .ok (.agg (nc x)) w := run_ld w a _ (.inr rfl)

/-- A whole name into a variable that was made last. -/
noncomputable def st (t : TypeId) (p v : Value) : Sem Unit := Instr.storeAt t p v
theorem st_a (p v : Value) : Instr.storeAt 23 p v = st 23 p v := rfl
theorem st_n (p v : Value) : Instr.storeAt 24 p v = st 24 p v := rfl
theorem run_st_n (w : World) (n : Nat) (x : D.Nm) (h : n = w.heap.size) :
    (st 24 (.pointer (some ⟨n, 0, none⟩)) (.agg (nc x))).run Try.prog (w.alloc (.cells #[.int .u8 0, .int .u8 0, .int .u8 0, .int .u8 0, .int .u8 0, .int .u8 0, .int .u8 0, .int .u8 0, .int .u8 0, .int .u8 0, .int .u8 0, .int .u8 0] 24)) = .ok () (w.alloc (.cells (nc x) 24)) := by
  subst h
  exact run_storeAt_new (P := Try.prog) w 24 _ (nc x) (by rw [nc_size]; kernel_rfl) (by rw [nc_size]; rfl) (nc_one x)

/-- Two names compared. -/
noncomputable def eq12 (t : TypeId) (u v : Value) : Sem Value := binOp .eql t u v
noncomputable def ne12 (t : TypeId) (u v : Value) : Sem Value := binOp .neq t u v
theorem eq_a (u v : Value) : binOp .eql 23 u v = eq12 23 u v := rfl
theorem eq_n (u v : Value) : binOp .eql 24 u v = eq12 24 u v := rfl
theorem ne_a (u v : Value) : binOp .neq 23 u v = ne12 23 u v := rfl
theorem ne_n (u v : Value) : binOp .neq 24 u v = ne12 24 u v := rfl
def sm (x y : D.Nm) : Bool := decide (x = y)

theorem mapM_all {α β : Type} {g : α → Option β} {h : α → β} : ∀ l : List α, (∀ a ∈ l, g a = some (h a)) → l.mapM g = some (l.map h)
  | [], _ => rfl
  | a :: l, hl => by
    rw [List.mapM_cons, hl a (by simp), mapM_all l fun b hb => hl b (by simp [hb])]
    rfl
theorem one_bys {l : List Nat} {i : Nat} (h : i < l.length) : ((bys l).drop i).take 1 = [.int .u8 ((l.getD i 0 : Nat) : Int)] := by
  apply List.ext_getElem?
  intro j
  cases j with
  | zero =>
    rw [List.getElem?_take_of_lt (by omega), List.getElem?_drop, Nat.add_zero]
    simp [bys, List.getElem?_eq_getElem h, List.getD]
  | succ j =>
    rw [List.getElem?_take_eq_none (by omega)]; rfl
theorem keyed_n : Try.prog.keyType 24 = true := by kernel_rfl
theorem keyed_a : Try.prog.keyType 23 = true := by kernel_rfl
theorem cells_u8 : Try.prog.cellsOf 5 = 1 := by kernel_rfl
theorem key_lits (x : D.Nm) (t : TypeId) (d : Nat) (hu : Try.prog.underlying t = some (.array 12 5)) (hc : Try.prog.cellsOf t = 12) : ∃ l, Try.prog.keyLits (d + 2) t (bys x.l) = some l := by
  have h12 : (bys x.l).length = 12 := by rw [bys_len, x.len]
  refine ⟨((List.range 12).map fun i => [Lit.int .u8 ((x.l.getD i 0 : Nat) : Int)]).flatten, ?_⟩
  have hm : (List.range 12).mapM (fun i => Try.prog.keyLits (d + 1) 5 (((bys x.l).drop (i * Try.prog.cellsOf 5)).take (Try.prog.cellsOf 5))) = some ((List.range 12).map fun i => [Lit.int .u8 ((x.l.getD i 0 : Nat) : Int)]) := by
    refine mapM_all _ fun i hi => ?_
    have hi' := List.mem_range.1 hi
    rw [cells_u8, Nat.mul_one, one_bys (by rw [x.len]; exact hi')]
    have hb : x.l.getD i 0 < 256 := by
      rw [List.getD, List.getElem?_eq_getElem (by rw [x.len]; exact hi')]
      exact x.lt _ (List.getElem_mem _)
    obtain ⟨b, hq⟩ : ∃ b, x.l.getD i 0 = b := ⟨_, rfl⟩
    rw [hq] at hb ⊢
    have hw : (Lit.int .u8 ((b : Nat) : Int)).wf = true := by
      simp [Lit.wf, IntKind.min, IntKind.max, IntKind.bits, IntKind.signed]
      omega
    unfold Program.keyLits
    rw [Try.underlying5]
    simp [hw]
  unfold Program.keyLits
  rw [hu]
  simp only [h12, hc, if_true, hm, Option.map_some]
theorem key_of (x : D.Nm) (t : TypeId) (ht : t = 23 ∨ t = 24) : ∃ l, keyOf Try.prog t (.agg (nc x)) = some l := by
  rcases ht with rfl | rfl
  · obtain ⟨l, hl⟩ := key_lits x 23 (Try.prog.types.size - 1) Try.underlying23 (by kernel_rfl)
    refine ⟨.string (keyBytes l), ?_⟩
    unfold keyOf
    rw [Try.underlying23]
    have hs : ((bys x.l).toArray.size == Try.prog.cellsOf 23) = true := by
      rw [show (bys x.l).toArray.size = 12 from nc_size x, show Try.prog.cellsOf 23 = 12 by kernel_rfl]; rfl
    simp only [keyed_a, Value.formed, Try.underlying23, Value.cells, nc, Bool.true_and, hs, if_true]
    rw [show Try.prog.types.size + 1 = Try.prog.types.size - 1 + 2 by kernel_rfl, hl]
    rfl
  · obtain ⟨l, hl⟩ := key_lits x 24 (Try.prog.types.size - 1) Try.underlying24 (by kernel_rfl)
    refine ⟨.string (keyBytes l), ?_⟩
    unfold keyOf
    rw [Try.underlying24]
    have hs : ((bys x.l).toArray.size == Try.prog.cellsOf 24) = true := by
      rw [show (bys x.l).toArray.size = 12 from nc_size x, show Try.prog.cellsOf 24 = 12 by kernel_rfl]; rfl
    simp only [keyed_n, Value.formed, Try.underlying24, Value.cells, nc, Bool.true_and, hs, if_true]
    rw [show Try.prog.types.size + 1 = Try.prog.types.size - 1 + 2 by kernel_rfl, hl]
    rfl
theorem laid_out : laidOutB Try.prog = true := by kernel_rfl
theorem law_n : Maps.Keyed Try.prog 24 := Maps.Keyed.of_law (deep_law_laid laid_out (m := 3) (by omega) (of_decide_eq_true (by kernel_rfl)) (by kernel_rfl) (by rw [Try.underlying24]))
theorem law_a : Maps.Keyed Try.prog 23 := Maps.Keyed.of_law (deep_law_laid laid_out (m := 3) (by omega) (of_decide_eq_true (by kernel_rfl)) (by kernel_rfl) (by rw [Try.underlying23]))
theorem run_equal (t : TypeId) (ht : t = 23 ∨ t = 24) (x y : D.Nm) (w : World) : (Op.equal t (.agg (nc x)) (.agg (nc y))).run Try.prog w = .ok (sm x y) w := by
  obtain ⟨lx, hx⟩ := key_of x t ht
  obtain ⟨ly, hy⟩ := key_of y t ht
  have hk : Try.prog.keyTypeAt 3 t = true := by rcases ht with rfl | rfl <;> kernel_rfl
  have hw : (match Try.prog.underlying t with | some (.array _ _) | some (.struct _) => true | _ => false) = true := by
    rcases ht with rfl | rfl
    · rw [Try.underlying23]
    · rw [Try.underlying24]
  have K : Maps.Keyed Try.prog t := by rcases ht with rfl | rfl; exact law_a; exact law_n
  obtain ⟨r, hr, hiff⟩ := run_equal_deep (P := Try.prog) w (m := 3) (by omega) hk hw hx hy
  rw [hr]
  congr 1
  have : (r = true) ↔ x = y := by
    rw [hiff]
    constructor
    · intro e
      subst e
      have := K.inj hx hy
      injection this with this
      exact nc_inj this
    · intro e
      subst e
      rw [hx] at hy
      injection hy
  unfold sm
  cases r
  · symm; simpa using this
  · symm; simpa using this
theorem run_eq (w : World) (t : TypeId) (ht : t = 23 ∨ t = 24) (x y : D.Nm) : (eq12 t (.agg (nc x)) (.agg (nc y))).run Try.prog w = .ok (.bool (sm x y)) w := by
  simp only [eq12, binOp]
  rw [Sem.run_bind, run_equal t ht]
  rfl
theorem run_ne (w : World) (t : TypeId) (ht : t = 23 ∨ t = 24) (x y : D.Nm) : (ne12 t (.agg (nc x)) (.agg (nc y))).run Try.prog w = .ok (.bool (!sm x y)) w := by
  simp only [ne12, binOp]
  rw [Sem.run_bind, run_equal t ht]
  rfl
theorem run_eq_a (w : World) (x y : D.Nm) : (eq12 23 (.agg (nc x)) (.agg (nc y))).run Try.prog w = .ok (.bool (sm x y)) w := run_eq w _ (.inl rfl) x y
theorem run_eq_n (w : World) (x y : D.Nm) : (eq12 24 (.agg (nc x)) (.agg (nc y))).run Try.prog w = .ok (.bool (sm x y)) w := run_eq w _ (.inr rfl) x y
theorem run_ne_a (w : World) (x y : D.Nm) : (ne12 23 (.agg (nc x)) (.agg (nc y))).run Try.prog w = .ok (.bool (!sm x y)) w := run_ne w _ (.inl rfl) x y
theorem run_ne_n (w : World) (x y : D.Nm) : (ne12 24 (.agg (nc x)) (.agg (nc y))).run Try.prog w = .ok (.bool (!sm x y)) w := run_ne w _ (.inr rfl) x y
end Go.Proofs.Ytkhjnfplcaffnaa.Nm
set_option linter.unusedVariables false
set_option linter.unusedSimpArgs false
set_option maxRecDepth 100000
namespace Go.Proofs.Ytkhjnfplcaffnaa.Nm
open Go.RowKit

/-- The cells of names in a row. -/
def ncs (l : List D.Nm) : List Value := l.flatMap fun x => bys x.l
theorem ncs_cons (x : D.Nm) (l : List D.Nm) : ncs (x :: l) = bys x.l ++ ncs l := rfl
theorem ncs_app (l k : List D.Nm) : ncs (l ++ k) = ncs l ++ ncs k := by simp [ncs]
theorem ncs_len (l : List D.Nm) : (ncs l).length = l.length * 12 := by
  induction l with
  | nil => rfl
  | cons x l ih => rw [ncs_cons, List.length_append, ih, bys_len, x.len, List.length_cons]; omega
theorem ncs_one (l : List D.Nm) : ∀ u ∈ ncs l, u.oneCell' = true := by
  intro u hu
  obtain ⟨x, _, hx⟩ := List.mem_flatMap.1 hu
  exact bys_one x.l u hx
theorem ncs_at : ∀ {l : List D.Nm} {i : Nat} {x : D.Nm}, l[i]? = some x → ∀ j u, (bys x.l)[j]? = some u → (ncs l)[i * 12 + j]? = some u
  | [], i, x, h, j, u, hu => by simp at h
  | y :: l, 0, x, h, j, u, hu => by
    simp at h
    subst h
    have hj := (List.getElem?_eq_some_iff.1 hu).1
    rw [ncs_cons, Nat.zero_mul, Nat.zero_add, List.getElem?_append_left hj]
    exact hu
  | y :: l, i + 1, x, h, j, u, hu => by
    rw [ncs_cons, List.getElem?_append_right (by rw [bys_len, y.len]; omega), bys_len, y.len, show (i + 1) * 12 + j - 12 = i * 12 + j by omega]
    exact ncs_at (by simpa using h) j u hu
theorem ncs_sub {l : List D.Nm} {j : Nat} {u : Value} (h : (ncs l)[j]? = some u) : ∃ x, l[j / 12]? = some x ∧ (bys x.l)[j % 12]? = some u := by
  have hj := (List.getElem?_eq_some_iff.1 h).1
  rw [ncs_len] at hj
  have hl : j / 12 < l.length := by omega
  have hx : l[j / 12]? = some (l[j / 12]) := List.getElem?_eq_getElem hl
  refine ⟨_, hx, ?_⟩
  have hb : j % 12 < (bys (l[j / 12]).l).length := by rw [bys_len, D.Nm.len]; omega
  have := ncs_at hx (j % 12) _ (List.getElem?_eq_getElem hb)
  rw [show j / 12 * 12 + j % 12 = j by omega, h] at this
  rw [List.getElem?_eq_getElem hb, ← this]
theorem ncs_inj {l k : List D.Nm} (h : ncs l = ncs k) : l = k := by
  apply List.ext_getElem?
  intro i
  have hl : l.length = k.length := by
    have := congrArg List.length h
    rw [ncs_len, ncs_len] at this; omega
  by_cases hi : i < l.length
  · have e1 : l[i]? = some l[i] := List.getElem?_eq_getElem hi
    have e2 : k[i]? = some (k[i]'(by omega)) := List.getElem?_eq_getElem (by omega)
    rw [e1, e2]
    congr 1
    refine D.Nm.eq (bys_inj (List.ext_getElem? fun j => ?_))
    by_cases hj : j < 12
    · have f1 : (bys l[i].l)[j]? = some ((bys l[i].l)[j]'(by rw [bys_len, D.Nm.len]; exact hj)) := List.getElem?_eq_getElem _
      have f2 : (bys (k[i]'(by omega)).l)[j]? = some ((bys (k[i]'(by omega)).l)[j]'(by rw [bys_len, D.Nm.len]; exact hj)) := List.getElem?_eq_getElem _
      have := (ncs_at e1 j _ f1).symm.trans ((congrArg (·[i * 12 + j]?) h).trans (ncs_at e2 j _ f2))
      rw [f1, f2, this]
    · rw [List.getElem?_eq_none (by rw [bys_len, D.Nm.len]; omega), List.getElem?_eq_none (by rw [bys_len, D.Nm.len]; omega)]
  · rw [List.getElem?_eq_none (by omega), List.getElem?_eq_none (by omega)]

/-- A slice of names, nil let in. -/
structure NRow (w : World) (A : Option Addr) (n : Nat) (l : List D.Nm) : Prop where
  len : l.length = n
  tow : 0 < n → ∃ ad, A = some ad ∧ ad.block < w.heap.size ∧ ∀ i x, l[i]? = some x → At w (ad.add (i * 12)) x
section
variable {w w' : World} {A : Option Addr} {n : Nat} {l : List D.Nm}
theorem NRow.nil (w : World) (A : Option Addr) : NRow w A 0 [] := ⟨rfl, fun h => absurd h (by omega)⟩
theorem NRow.kept (h : NRow w A n l) (hs : w.heap.size ≤ w'.heap.size) (hk : ∀ ad, A = some ad → w'.heap[ad.block]? = w.heap[ad.block]?) : NRow w' A n l := ⟨h.len, fun hn => by
  obtain ⟨ad, e, hl, hc⟩ := h.tow hn
  exact ⟨ad, e, Nat.lt_of_lt_of_le hl hs, fun i x hx => (hc i x hx).tow (by rw [block_of_add]; exact hk ad e)⟩⟩
theorem NRow.on (h : NRow w A n l) (hb : Below w.heap.size w w') : NRow w' A n l := ⟨h.len, fun hn => by
  obtain ⟨ad, e, hl, hc⟩ := h.tow hn
  exact ⟨ad, e, Nat.lt_of_lt_of_le hl hb.size, fun i x hx => (hc i x hx).tow (by rw [block_of_add]; exact hb.block _ hl)⟩⟩
theorem NRow.drewN (h : NRow w A n l) (k : Nat) : NRow (w.drewN k) A n l := h.on ⟨rfl, rfl, rfl, Nat.le_refl _, fun _ _ => rfl⟩
theorem NRow.alloc (h : NRow w A n l) (o : Obj) : NRow (w.alloc o) A n l := h.on ((Below.refl _ _).alloc (Nat.le_refl _) o)
theorem NRow.rd {i : Nat} {x : D.Nm} (h : NRow w A n l) (hx : l[i]? = some x) : ∃ ad, A = some ad ∧ ad.block < w.heap.size ∧ rd w (ad.add (i * 12)) = some x := by
  have := (List.getElem?_eq_some_iff.1 hx).1
  obtain ⟨ad, e, hl, hc⟩ := h.tow (by have := h.len; omega)
  exact ⟨ad, e, hl, rd_of (hc i x hx)⟩
theorem NRow.cut (h : NRow w A n l) {k cap : Nat} (hk : k ≤ n) (hc : n ≤ cap) : NRow w (if cap = k then A else A.map (·.add (k * 12))) (n - k) (l.drop k) :=
  ⟨by have := h.len; simp; omega, fun hn => by
    obtain ⟨ad, rfl, hb, hcell⟩ := h.tow (by omega)
    rw [if_neg (by omega)]
    refine ⟨ad.add (k * 12), rfl, by rw [block_of_add]; exact hb, fun i x hx => ?_⟩
    rw [add_of_add, ← Nat.add_mul]
    exact hcell _ x (by rw [← hx, List.getElem?_drop])⟩
theorem NRow.take (h : NRow w A n l) {k : Nat} (hk : k ≤ n) : NRow w A k (l.take k) :=
  ⟨by have := h.len; simp; omega, fun h0 => by
    obtain ⟨ad, e, hl, hc⟩ := h.tow (by omega)
    refine ⟨ad, e, hl, fun i x hx => hc i x ?_⟩
    rw [List.getElem?_take] at hx
    split at hx
    · exact hx
    · cases hx⟩
theorem nat_lt {i : Nat} (h : i < l.length) : ∃ x, l[i]? = some x := ⟨l[i], List.getElem?_eq_getElem h⟩
theorem nrow_new (w : World) (e : TypeId) (H : Nat) (l : List D.Nm) (hH : H = w.heap.size) (cs : Array Value) (hc : cs.toList = ncs l) : NRow (w.alloc (.cells cs e)) (some ⟨H, 0, none⟩) l.length l := by
  subst hH
  refine ⟨rfl, fun _ => ⟨_, rfl, by simp, fun i x hx j u hu => ?_⟩⟩
  rw [add_of_add]
  exact World.news_of_block (heap_alloc_new w _) _ u (by rw [hc]; exact ncs_at hx j u hu)
end

/-- A slice of names of the call's own, or nil. -/
structure NOwn (base e : Nat) (w : World) (A : Option Addr) (n c : Nat) (l : List D.Nm) : Prop where
  row : w.ownsRow base e 12 (.slice A n c) n (ncs l)
  base : base ≤ w.heap.size
section
variable {base e n c : Nat} {w w' : World} {A : Option Addr} {l : List D.Nm}
theorem NOwn.len (h : NOwn base e w A n c l) : l.length = n := by have := h.row.1; rw [ncs_len] at this; omega
theorem NOwn.cap (h : NOwn base e w A n c l) : n ≤ c ∧ c ≤ maxLen := by
  rcases h.row.2 with ⟨e, h0⟩ | ⟨g, cap, cur, e, _, _, h1, h2, _⟩
  · injection e with _ _ e2
    exact ⟨by omega, by rw [e2]; exact Nat.zero_le _⟩
  · injection e with _ _ e2
    subst e2
    exact ⟨h1, h2⟩
theorem NOwn.to_row (h : NOwn base e w A n c l) : NRow w A n l :=
  ⟨h.len, fun hn => by
    obtain ⟨g, cap, e, _, hlt⟩ := h.row.form hn
    have hA : A = some ⟨g, 0, none⟩ := by injection e
    subst hA
    exact ⟨_, rfl, hlt, fun i x hx j u hu => by
      rw [add_of_add]
      exact h.row.cells (g := g) rfl _ _ (ncs_at hx j u hu)⟩⟩
theorem NOwn.nil (h : base ≤ w.heap.size) : NOwn base e w none 0 0 [] := ⟨World.ownsRow_nil _ _ _ _, h⟩
theorem NOwn.kept (h : NOwn base e w A n c l) (hs : w.heap.size ≤ w'.heap.size) (hk : ∀ g, (Value.slice A n c).ownBlock = some g → w'.heap[g]? = w.heap[g]?) : NOwn base e w' A n c l := by
  refine ⟨⟨h.row.1, ?_⟩, Nat.le_trans h.base hs⟩
  rcases h.row.2 with hn | ⟨g, cap, cur, e, hg, hh, r⟩
  · exact .inl hn
  · refine .inr ⟨g, cap, cur, e, hg, ?_, r⟩
    rw [hk g (by rw [e]; rfl)]
    exact hh
theorem NOwn.lt (h : NOwn base e w A n c l) : ∀ k, (Value.slice A n c).ownBlock = some k → base ≤ k ∧ k < w.heap.size := h.row.lt
theorem NOwn.on (h : NOwn base e w A n c l) (hb : Below w.heap.size w w') : NOwn base e w' A n c l := h.kept hb.size fun g hg => hb.block g (h.lt g hg).2
theorem NOwn.drewN (h : NOwn base e w A n c l) (k : Nat) : NOwn base e (w.drewN k) A n c l := ⟨h.row, h.base⟩
theorem NOwn.alloc (h : NOwn base e w A n c l) (o : Obj) : NOwn base e (w.alloc o) A n c l := h.on ((Below.refl _ _).alloc (Nat.le_refl _) o)
theorem NOwn.low {b : Nat} (h : NOwn base e w A n c l) (hb : b ≤ base) : NOwn b e w A n c l := by
  refine ⟨⟨h.row.1, ?_⟩, Nat.le_trans hb h.base⟩
  rcases h.row.2 with hz | ⟨g, cap, cur, e, hg, r⟩
  · exact .inl hz
  · exact .inr ⟨g, cap, cur, e, Nat.le_trans hb hg, r⟩
end

section
variable (w : World)
end

theorem twelve (x : D.Nm) : ∃ a b c d e f g h i j k l : Value, nc x = #[a, b, c, d, e, f, g, h, i, j, k, l] := by
  have := x.len
  match hx : x.l, this with
  | [a, b, c, d, e, f, g, h, i, j, k, l], _ => exact ⟨_, _, _, _, _, _, _, _, _, _, _, _, by rw [nc, hx]; rfl⟩
abbrev z12 : Array Value := #[.int .u8 0, .int .u8 0, .int .u8 0, .int .u8 0, .int .u8 0, .int .u8 0, .int .u8 0, .int .u8 0, .int .u8 0, .int .u8 0, .int .u8 0, .int .u8 0]
theorem nrow_one (w : World) (e : TypeId) (H : Nat) (x : D.Nm) (hH : H = w.heap.size) : NRow (w.alloc (.cells (nc x) e)) (some ⟨H, 0, none⟩) 1 [x] := nrow_new w e H [x] hH _ (by simp [nc, ncs])
theorem nrow_two (w : World) (e : TypeId) (H : Nat) (x y : D.Nm) (hH : H = w.heap.size) : NRow (w.alloc (.cells (nc x ++ nc y) e)) (some ⟨H, 0, none⟩) 2 [x, y] := nrow_new w e H [x, y] hH _ (by simp [nc, ncs])

theorem st_z (p : Value) : st 24 p (.agg #[.int .u8 0, .int .u8 0, .int .u8 0, .int .u8 0, .int .u8 0, .int .u8 0, .int .u8 0, .int .u8 0, .int .u8 0, .int .u8 0, .int .u8 0, .int .u8 0]) = st 24 p (.agg (nc D.zero)) := rfl
theorem ne_z (v : Value) : ne12 24 v (.agg #[.int .u8 0, .int .u8 0, .int .u8 0, .int .u8 0, .int .u8 0, .int .u8 0, .int .u8 0, .int .u8 0, .int .u8 0, .int .u8 0, .int .u8 0, .int .u8 0]) = ne12 24 v (.agg (nc D.zero)) := rfl
/-- A name out of a result's variable. -/
noncomputable def lv (t : TypeId) (a : Addr) : Sem Value := loadVar t a
theorem lv_a (a : Addr) : loadVar 23 a = lv 23 a := rfl
theorem lv_n (a : Addr) : loadVar 24 a = lv 24 a := rfl
theorem run_lv (w : World) (a : Addr) (t : TypeId) (ht : t = 23 ∨ t = 24) : (lv t a).run Try.prog w = (rd w a).elim (bad t a w) fun x => .ok (.agg (nc x)) w := by
  rw [← run_ld w a t ht]
  simp only [lv, ld, Instr.loadAt, Instr.sureAddr, Sem.run_bind, Sem.run_pure, Result.andThen_ok]
theorem run_lv_a (w : World) (a : Addr) : (lv 23 a).run Try.prog w = (rd w a).elim (bad 23 a w) fun x => .ok (.agg (nc x)) w := run_lv w a _ (.inl rfl)
theorem run_lv_n (w : World) (a : Addr) : (lv 24 a).run Try.prog w = (rd w a).elim (bad 24 a w) fun x => .ok (.agg (nc x)) w := run_lv w a _ (.inr rfl)

theorem lv_of {w : World} {a : Addr} {x : D.Nm} (h : rd w a = some x) : (loadVar 24 a).run Try.prog w = .ok (.agg (nc x)) w := (run_lv_n w a).trans (by rw [h]; rfl)
theorem Blk.c {w : World} {g : Nat} {t : TypeId} {cs : Array Value} (h : Blk w g t cs) (i : Nat) : w.cell? ⟨g, i, none⟩ = cs[i]? := cell_of_row w g i cs t (0, 0) h.out
theorem Blk.f {w : World} {g : Nat} {t : TypeId} {cs : Array Value} (h : Blk w g t cs) (i : Nat) : w.frozen? ⟨g, i, none⟩ = false := by
  have := h.out
  simp [World.frozen?, this]
theorem Blk.put {w : World} {g : Nat} {t : TypeId} {cs : Array Value} (h : Blk w g t cs) (i : Nat) (u : Value) : Blk (w.setCell ⟨g, i, none⟩ u) g t (cs.setIfInBounds i u) := by
  have := h.out
  exact ⟨by simp [World.setCell, Array.getElem?_modify, this]⟩
theorem Blk.far {w : World} {g : Nat} {t : TypeId} {cs : Array Value} (h : Blk w g t cs) {p : Addr} (hp : g ≠ p.block) (u : Value) : Blk (w.setCell p u) g t cs := ⟨(Below.heap_setCell w p u g hp).trans h.out⟩
theorem Blk.ne_ {w : World} {g g' : Nat} {t t' : TypeId} {cs cs' : Array Value} (h : Blk w g t cs) (h' : Blk w g' t' cs') (hne : t ≠ t') : g ≠ g' := by
  rintro rfl
  have h1 := h.out
  rw [h'.out] at h1
  injection h1 with h1
  injection h1 with _ ht
  exact hne ht.symm
theorem blk_drewN {w : World} {g : Nat} {t : TypeId} {cs : Array Value} (h : Blk w g t cs) (q : Nat) : Blk (w.drewN q) g t cs := ⟨h.out⟩
theorem below_drewN {B : Nat} {a w : World} (h : Below B a w) (n : Nat) : Below B a (w.drewN n) := ⟨h.os, h.tape, h.output, h.size, h.block⟩
theorem below_alloc_ (w : World) (o : Obj) : Below w.heap.size w (w.alloc o) := (Below.refl _ _).alloc (Nat.le_refl _) o
/-- A whole name into a block that is known whole. -/
theorem st_blk {w : World} {g t : TypeId} {cs : Array Value} (ht : t = 23 ∨ t = 24) (h : Blk w g t cs) (hs : cs.size = 12) (x : D.Nm) :
    ∃ w', (st t (.pointer (some ⟨g, 0, none⟩)) (.agg (nc x))).run Try.prog w = .ok () w' ∧ Blk w' g t (nc x) ∧ w.grownBy w' (some g) := by
  have hr : (storeVar t ⟨g, 0, none⟩ (.agg (nc x))).run Try.prog w = .ok () (w.setRow g (nc x)) :=
    run_storeVar_row (P := Try.prog) w g t t cs (nc x) h.out (by rcases ht with rfl | rfl <;> (rw [nc_size]; kernel_rfl)) (by rw [nc_size, hs]) (nc_one x)
  refine ⟨w.setRow g (nc x), ?_, ⟨?_⟩, ⟨rfl, rfl, rfl, by simp [World.setRow], fun i _ hi => ?_⟩⟩
  · simp only [st, Instr.storeAt, Instr.sureAddr, Sem.run_bind, Sem.run_pure, Result.andThen_ok]
    exact hr
  · have := h.out
    simp [World.setRow, Array.getElem?_modify, this]
  · have hne : ¬ g = i := fun e => hi (by rw [e])
    simp [World.setRow, Array.getElem?_modify, hne]
end Go.Proofs.Ytkhjnfplcaffnaa.Nm
