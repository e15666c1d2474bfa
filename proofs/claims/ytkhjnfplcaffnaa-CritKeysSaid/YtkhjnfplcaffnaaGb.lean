/-
  Words for tags in memory: a tag's ten cells, what lies at an address; loads, stores and comparisons of whole tags, and of ten bytes.
  Rows of tags in memory; a slice of tags that the call made; append; what lies in a tag's variable, written and read whole; a tag's three parts.
-/
import Derived.Test.YtkhjnfplcaffnaaMem
import Derived.Deep.MidRow
import Derived.Deep.WholeRow
import Derived.Laws.StructEq
import Derived.DeepKeys4
import Derived.Maps.OwnSet
import Derived.KernelRfl
import Derived.Laws.ResultCell
import Derived.Laws.Rows
set_option linter.unusedVariables false
set_option linter.unusedSimpArgs false
namespace Go.Proofs.Ytkhjnfplcaffnaa
open Go.RowKit

/-- A name's cells. -/
def nc (x : D.Tg) : Array Value := (bys x.l).toArray
theorem nc_size (x : D.Tg) : (nc x).size = 10 := by simp [nc, bys_len, x.len]
theorem bys_inj {l k : List Nat} (h : bys l = bys k) : l = k := by
  induction l generalizing k with
  | nil => cases k with
    | nil => rfl
    | cons b k => simp [bys] at h
  | cons a l ih => cases k with
    | nil => simp [bys] at h
    | cons b k =>
      simp only [bys, List.map_cons, List.cons.injEq, Value.int.injEq, true_and] at h
      obtain ⟨h1, h2⟩ := h
      rw [ih h2, show a = b by omega]
theorem nc_inj {x y : D.Tg} (h : nc x = nc y) : x = y := D.Tg.eq (bys_inj (by simpa [nc] using h))
theorem nc_one (x : D.Tg) : (nc x).all (·.oneCell') = true := all_oneCell_toArray (bys_one x.l)
theorem nc_zero : nc D.zero = #[.int .u8 0, .int .u8 0, .int .u8 0, .int .u8 0, .int .u8 0, .int .u8 0, .int .u8 0, .int .u8 0, .int .u8 0, .int .u8 0] := rfl

/-- At this address lies this name. -/
def At (w : World) (a : Addr) (x : D.Tg) : Prop := ∀ j u, (bys x.l)[j]? = some u → w.cell? (a.add j) = some u
theorem At.one {w : World} {a : Addr} {x y : D.Tg} (h : At w a x) (k : At w a y) : x = y := by
  refine D.Tg.eq (bys_inj (List.ext_getElem? fun j => ?_))
  by_cases hj : j < 10
  · have e1 : (bys x.l)[j]? = some ((bys x.l)[j]'(by rw [bys_len, x.len]; exact hj)) := List.getElem?_eq_getElem _
    have e2 : (bys y.l)[j]? = some ((bys y.l)[j]'(by rw [bys_len, y.len]; exact hj)) := List.getElem?_eq_getElem _
    have := (h j _ e1).symm.trans (k j _ e2)
    rw [e1, e2, this]
  · rw [List.getElem?_eq_none (by rw [bys_len, x.len]; omega), List.getElem?_eq_none (by rw [bys_len, y.len]; omega)]
open Classical in
/-- The name that lies at an address. -/
noncomputable def rd (w : World) (a : Addr) : Option D.Tg := if h : ∃ x, At w a x then some (Classical.choose h) else none
theorem rd_of {w : World} {a : Addr} {x : D.Tg} (h : At w a x) : rd w a = some x := by
  have hx : ∃ x, At w a x := ⟨x, h⟩
  rw [rd, dif_pos hx, (Classical.choose_spec hx).one h]
theorem at_of {w : World} {a : Addr} {x : D.Tg} (h : rd w a = some x) : At w a x := by
  unfold rd at h
  split at h
  · rename_i hx
    injection h with h
    rw [← h]
    exact Classical.choose_spec hx
  · cases h
theorem At.tow {w w' : World} {a : Addr} {x : D.Tg} (h : At w a x) (hk : w'.heap[a.block]? = w.heap[a.block]?) : At w' a x := fun j u hu =>
  (World.cell?_of_block (w := w) (by rw [block_of_add]; exact hk)).trans (h j u hu)
theorem rd_to {w w' : World} {a : Addr} (hk : w'.heap[a.block]? = w.heap[a.block]?) : rd w' a = rd w a := by
  by_cases h : ∃ x, At w a x
  · obtain ⟨x, hx⟩ := h
    rw [rd_of hx, rd_of (hx.tow hk)]
  · have h' : ¬ ∃ x, At w' a x := fun ⟨x, hx⟩ => h ⟨x, hx.tow hk.symm⟩
    rw [rd, rd, dif_neg h, dif_neg h']
theorem rd_lt {w : World} {a : Addr} {x : D.Tg} (h : rd w a = some x) : a.block < w.heap.size := by
  have e1 : (bys x.l)[0]? = some ((bys x.l)[0]'(by rw [bys_len, x.len]; decide)) := List.getElem?_eq_getElem _
  have := World.block_lt_of_cell? w _ (at_of h 0 _ e1)
  rwa [block_of_add] at this
theorem rd_on {w w' : World} {a : Addr} {x : D.Tg} (h : rd w a = some x) (hb : Below w.heap.size w w') : rd w' a = some x := (rd_to (hb.block _ (rd_lt h))).trans h
theorem rd_blk {w : World} {g : Nat} {t : TypeId} {x : D.Tg} (h : Blk w g t (nc x)) : rd w ⟨g, 0, none⟩ = some x := rd_of fun j u hu => by
  rw [World.news_of_block h.out j u]
  simpa [nc] using hu
theorem blk_on {w w' : World} {g : Nat} {t : TypeId} {cs : Array Value} (h : Blk w g t cs) (hb : Below w.heap.size w w') : Blk w' g t cs := h.on hb

theorem rd_new (w : World) (n : Nat) (t : TypeId) (x : D.Tg) (h : n = w.heap.size) : rd (w.alloc (.cells (nc x) t)) ⟨n, 0, none⟩ = some x := by
  subst h
  exact rd_blk (Blk.new w t (nc x))
theorem rd_old (w : World) (a : Addr) (o : Obj) (h : a.block < w.heap.size) : rd (w.alloc o) a = rd w a := rd_to (Below.heap_alloc w o _ h)
theorem rd_drew (w : World) (a : Addr) : rd w.drew a = rd w a := rd_to rfl
theorem rd_drewN (w : World) (a : Addr) (n : Nat) : rd (w.drewN n) a = rd w a := rd_to rfl
theorem rd_setCell (w : World) (a p : Addr) (u : Value) (h : a.block ≠ p.block) : rd (w.setCell p u) a = rd w a := rd_to (Below.heap_setCell w p u _ h)

/-- The whole name out of its variable. -/
noncomputable def ld (t : TypeId) (v : Value) : Sem Value := Instr.loadAt t v
noncomputable def bad (t : TypeId) (a : Addr) (w : World) : Result Value := (Instr.loadAt t (.pointer (some a))).run Try.prog w
theorem ld_a (v : Value) : Instr.loadAt 38 v = ld 38 v := rfl
theorem ld_n (v : Value) : Instr.loadAt 28 v = ld 28 v := rfl
theorem run_load {w : World} {a : Addr} {x : D.Tg} (t : TypeId) (ht : t = 38 ∨ t = 28) (h : At w a x) : (Instr.loadAt t (.pointer (some a))).run Try.prog w = .ok (.agg (nc x)) w := by
  have hl := run_loadCells_list (P := Try.prog) w a (bys x.l) h
  rw [bys_len, x.len] at hl
  rcases ht with rfl | rfl
  · simp only [Instr.loadAt, Instr.sureAddr, Sem.run_bind, Sem.run_pure, Result.andThen_ok, loadVar, Try.isAgg38, Try.sizeOf38, if_true, hl]
    rfl
  · simp only [Instr.loadAt, Instr.sureAddr, Sem.run_bind, Sem.run_pure, Result.andThen_ok, loadVar, Try.isAgg28, Try.sizeOf28, if_true, hl]
    rfl
set_option maxRecDepth 100000 in
theorem run_ld (w : World) (a : Addr) (t : TypeId) (ht : t = 38 ∨ t = 28) : (ld t (.pointer (some a))).run Try.prog w = (rd w a).elim (bad t a w) fun x => .ok (.agg (nc x)) w := by
  cases h : rd w a with
  | none => rfl
  | some x => exact run_load t ht (at_of h)
theorem run_ld_a (w : World) (a : Addr) : (ld 38 (.pointer (some a))).run Try.prog w = (rd w a).elim (bad 38 a w) fun x => .ok (.agg (nc x)) w := run_ld w a _ (.inl rfl)
theorem run_ld_n (w : World) (a : Addr) : (ld 28 (.pointer (some a))).run Try.prog w = (rd w a).elim (bad 28 a w) fun x => .ok (.agg (nc x)) w := run_ld w a _ (.inr rfl)

/-- A whole name into a variable that was made last. -/
noncomputable def st (t : TypeId) (p v : Value) : Sem Unit := Instr.storeAt t p v
theorem st_a (p v : Value) : Instr.storeAt 38 p v = st 38 p v := rfl
theorem st_n (p v : Value) : Instr.storeAt 28 p v = st 28 p v := rfl
theorem run_st_n (w : World) (n : Nat) (x : D.Tg) (h : n = w.heap.size) :
    (st 28 (.pointer (some ⟨n, 0, none⟩)) (.agg (nc x))).run Try.prog (w.alloc (.cells #[.int .u8 0, .int .u8 0, .int .u8 0, .int .u8 0, .int .u8 0, .int .u8 0, .int .u8 0, .int .u8 0, .int .u8 0, .int .u8 0] 28)) = .ok () (w.alloc (.cells (nc x) 28)) := by
  subst h
  exact run_storeAt_new (P := Try.prog) w 28 _ (nc x) (by rw [nc_size]; kernel_rfl) (by rw [nc_size]; rfl) (nc_one x)

/-- Two names compared. -/
noncomputable def eq10 (t : TypeId) (u v : Value) : Sem Value := binOp .eql t u v
noncomputable def ne10 (t : TypeId) (u v : Value) : Sem Value := binOp .neq t u v
theorem eq_a (u v : Value) : binOp .eql 38 u v = eq10 38 u v := rfl
theorem eq_n (u v : Value) : binOp .eql 28 u v = eq10 28 u v := rfl
theorem ne_a (u v : Value) : binOp .neq 38 u v = ne10 38 u v := rfl
theorem ne_n (u v : Value) : binOp .neq 28 u v = ne10 28 u v := rfl
def sm (x y : D.Tg) : Bool := decide (x = y)

theorem mapM_all {α β : Type} {g : α → Option β} {h : α → β} : ∀ l : List α, (∀ a ∈ l, g a = some (h a)) → l.mapM g = some (l.map h)
  | [], _ => rfl
  | a :: l, hl => by
    rw [List.mapM_cons, hl a (by simp), mapM_all l fun b hb => hl b (by simp [hb])]
    rfl
theorem one_bys {l : List Nat} {i : Nat} (h : i < l.length) : ((bys l).drop i).take 1 = [.int .u8 ((l.getD i 0 : Nat) : Int)] := by
  apply List.ext_getElem?
  intro j
  cases j with
  | zero =>
    rw [List.getElem?_take_of_lt (by omega), List.getElem?_drop, Nat.add_zero]
    simp [bys, List.getElem?_eq_getElem h, List.getD]
  | succ j =>
    rw [List.getElem?_take_eq_none (by omega)]; rfl
theorem keyed_n : Try.prog.keyType 28 = true := by kernel_rfl
theorem keyed_a : Try.prog.keyType 38 = true := by kernel_rfl
theorem cells_u8 : Try.prog.cellsOf 5 = 1 := by kernel_rfl
theorem lits_arr (l : List Nat) (hl : ∀ b ∈ l, b < 256) (n : Nat) (hn : l.length = n) (t : TypeId) (d : Nat) (hu : Try.prog.underlying t = some (.array n 5)) (hc : Try.prog.cellsOf t = n) : Try.prog.keyLits (d + 2) t (bys l) = some ((List.range n).map fun i => [Lit.int .u8 ((l.getD i 0 : Nat) : Int)]).flatten := by
  have hm : (List.range n).mapM (fun i => Try.prog.keyLits (d + 1) 5 (((bys l).drop (i * Try.prog.cellsOf 5)).take (Try.prog.cellsOf 5))) = some ((List.range n).map fun i => [Lit.int .u8 ((l.getD i 0 : Nat) : Int)]) := by
    refine mapM_all _ fun i hi => ?_
    have hi' := List.mem_range.1 hi
    rw [cells_u8, Nat.mul_one, one_bys (by rw [hn]; exact hi')]
    have hb : l.getD i 0 < 256 := by
      rw [List.getD, List.getElem?_eq_getElem (by rw [hn]; exact hi')]
      exact hl _ (List.getElem_mem _)
    obtain ⟨b, hq⟩ : ∃ b, l.getD i 0 = b := ⟨_, rfl⟩
    rw [hq] at hb ⊢
    have hw : (Lit.int .u8 ((b : Nat) : Int)).wf = true := by
      simp [Lit.wf, IntKind.min, IntKind.max, IntKind.bits, IntKind.signed]
      omega
    unfold Program.keyLits
    rw [Try.underlying5]
    simp [hw]
  unfold Program.keyLits
  rw [hu]
  simp only [bys_len, hn, hc, if_true, hm, Option.map_some]
theorem key_lits_a (x : D.Tg) (d : Nat) : ∃ l, Try.prog.keyLits (d + 3) 38 (bys x.l) = some l :=
  ⟨_, lits_arr x.l x.lt 10 x.len 38 (d + 1) Try.underlying38 (by kernel_rfl)⟩
theorem key_lits_n (x : D.Tg) (d : Nat) : ∃ l, Try.prog.keyLits (d + 3) 28 (bys x.l) = some l := by
  have hl := x.len
  have c26 : Try.prog.cellsOf 25 = 3 := by kernel_rfl
  have c27 : Try.prog.cellsOf 26 = 4 := by kernel_rfl
  have c29 : Try.prog.cellsOf 28 = 10 := by kernel_rfl
  have h1 := lits_arr (x.l.take 3) (fun b hb => x.lt b (List.mem_of_mem_take hb)) 3 (by simp; omega) 25 d Try.underlying25 c26
  have h2 := lits_arr ((x.l.drop 3).take 4) (fun b hb => x.lt b (List.mem_of_mem_drop (List.mem_of_mem_take hb))) 4 (by simp; omega) 26 d Try.underlying26 c27
  have h3 := lits_arr (x.l.drop 7) (fun b hb => x.lt b (List.mem_of_mem_drop hb)) 3 (by simp; omega) 25 d Try.underlying25 c26
  have e3 : (bys (x.l.drop 7)).take 3 = bys (x.l.drop 7) := List.take_of_length_le (by rw [bys_len]; simp; omega)
  rw [← e3] at h3
  simp only [← bys_take, ← bys_drop] at h1 h2 h3
  unfold Program.keyLits
  rw [Try.underlying28]
  simp only [bys_len, hl, c29, c26, c27]
  simp [h1, h2, h3, c26, c27]
theorem key_lits (x : D.Tg) (t : TypeId) (d : Nat) (ht : t = 38 ∨ t = 28) : ∃ l, Try.prog.keyLits (d + 3) t (bys x.l) = some l := by
  rcases ht with rfl | rfl
  · exact key_lits_a x d
  · exact key_lits_n x d
theorem key_of (x : D.Tg) (t : TypeId) (ht : t = 38 ∨ t = 28) : ∃ l, keyOf Try.prog t (.agg (nc x)) = some l := by
  obtain ⟨l, hl⟩ := key_lits x t (Try.prog.types.size - 2) ht
  have hs : ((bys x.l).toArray.size == Try.prog.cellsOf t) = true := by
    rw [show (bys x.l).toArray.size = 10 from nc_size x]
    rcases ht with rfl | rfl
    · rw [show Try.prog.cellsOf 38 = 10 by kernel_rfl]; rfl
    · rw [show Try.prog.cellsOf 28 = 10 by kernel_rfl]; rfl
  refine ⟨.string (keyBytes l), ?_⟩
  unfold keyOf
  rcases ht with rfl | rfl
  · rw [Try.underlying38]
    simp only [keyed_a, Value.formed, Try.underlying38, Value.cells, nc, Bool.true_and, hs, if_true]
    rw [show Try.prog.types.size + 1 = Try.prog.types.size - 2 + 3 by kernel_rfl, hl]
    rfl
  · rw [Try.underlying28]
    simp only [keyed_n, Value.formed, Try.underlying28, Value.cells, nc, Bool.true_and, hs, if_true]
    rw [show Try.prog.types.size + 1 = Try.prog.types.size - 2 + 3 by kernel_rfl, hl]
    rfl
theorem laid_out : laidOutB Try.prog = true := by kernel_rfl
theorem law_n : Maps.Keyed Try.prog 28 := Maps.Keyed.of_law (deep_law_laid laid_out (m := 4) (by omega) (of_decide_eq_true (by kernel_rfl)) (by kernel_rfl) (by rw [Try.underlying28]))
theorem law_a : Maps.Keyed Try.prog 38 := Maps.Keyed.of_law (deep_law_laid laid_out (m := 4) (by omega) (of_decide_eq_true (by kernel_rfl)) (by kernel_rfl) (by rw [Try.underlying38]))
set_option maxRecDepth 100000 in
theorem run_equal (t : TypeId) (ht : t = 38 ∨ t = 28) (x y : D.Tg) (w : World) : (Op.equal t (.agg (nc x)) (.agg (nc y))).run Try.prog w = .ok (sm x y) w := by
  obtain ⟨lx, hx⟩ := key_of x t ht
  obtain ⟨ly, hy⟩ := key_of y t ht
  have hk : Try.prog.keyTypeAt 4 t = true := by rcases ht with rfl | rfl <;> kernel_rfl
  have hw : (match Try.prog.underlying t with | some (.array _ _) | some (.struct _) => true | _ => false) = true := by
    rcases ht with rfl | rfl
    · rw [Try.underlying38]
    · rw [Try.underlying28]
  have K : Maps.Keyed Try.prog t := by rcases ht with rfl | rfl; exact law_a; exact law_n
  obtain ⟨r, hr, hiff⟩ := run_equal_deep (P := Try.prog) w (m := 4) (by omega) hk hw hx hy
  rw [hr]
  congr 1
  have : (r = true) ↔ x = y := by
    rw [hiff]
    constructor
    · intro e
      subst e
      have := K.inj hx hy
      injection this with this
      exact nc_inj this
    · intro e
      subst e
      rw [hx] at hy
      injection hy
  unfold sm
  cases r
  · symm; simpa using this
  · symm; simpa using this
theorem run_eq (w : World) (t : TypeId) (ht : t = 38 ∨ t = 28) (x y : D.Tg) : (eq10 t (.agg (nc x)) (.agg (nc y))).run Try.prog w = .ok (.bool (sm x y)) w := by
  simp only [eq10, binOp]
  rw [Sem.run_bind, run_equal t ht]
  rfl
theorem run_ne (w : World) (t : TypeId) (ht : t = 38 ∨ t = 28) (x y : D.Tg) : (ne10 t (.agg (nc x)) (.agg (nc y))).run Try.prog w = .ok (.bool (!sm x y)) w := by
  simp only [ne10, binOp]
  rw [Sem.run_bind, run_equal t ht]
  rfl
theorem run_eq_a (w : World) (x y : D.Tg) : (eq10 38 (.agg (nc x)) (.agg (nc y))).run Try.prog w = .ok (.bool (sm x y)) w := run_eq w _ (.inl rfl) x y
theorem run_eq_n (w : World) (x y : D.Tg) : (eq10 28 (.agg (nc x)) (.agg (nc y))).run Try.prog w = .ok (.bool (sm x y)) w := run_eq w _ (.inr rfl) x y
theorem run_ne_a (w : World) (x y : D.Tg) : (ne10 38 (.agg (nc x)) (.agg (nc y))).run Try.prog w = .ok (.bool (!sm x y)) w := run_ne w _ (.inl rfl) x y
theorem run_ne_n (w : World) (x y : D.Tg) : (ne10 28 (.agg (nc x)) (.agg (nc y))).run Try.prog w = .ok (.bool (!sm x y)) w := run_ne w _ (.inr rfl) x y
end Go.Proofs.Ytkhjnfplcaffnaa
set_option linter.unusedVariables false
set_option linter.unusedSimpArgs false
namespace Go.Proofs.Ytkhjnfplcaffnaa
open Go.RowKit

/-- The cells of names in a row. -/
def ncs (l : List D.Tg) : List Value := l.flatMap fun x => bys x.l
theorem ncs_cons (x : D.Tg) (l : List D.Tg) : ncs (x :: l) = bys x.l ++ ncs l := rfl
theorem ncs_app (l k : List D.Tg) : ncs (l ++ k) = ncs l ++ ncs k := by simp [ncs]
theorem ncs_len (l : List D.Tg) : (ncs l).length = l.length * 10 := by
  induction l with
  | nil => rfl
  | cons x l ih => rw [ncs_cons, List.length_append, ih, bys_len, x.len, List.length_cons]; omega
theorem ncs_one (l : List D.Tg) : ∀ u ∈ ncs l, u.oneCell' = true := by
  intro u hu
  obtain ⟨x, _, hx⟩ := List.mem_flatMap.1 hu
  exact bys_one x.l u hx
theorem ncs_at : ∀ {l : List D.Tg} {i : Nat} {x : D.Tg}, l[i]? = some x → ∀ j u, (bys x.l)[j]? = some u → (ncs l)[i * 10 + j]? = some u
  | [], i, x, h, j, u, hu => by simp at h
  | y :: l, 0, x, h, j, u, hu => by
    simp at h
    subst h
    have hj := (List.getElem?_eq_some_iff.1 hu).1
    rw [ncs_cons, Nat.zero_mul, Nat.zero_add, List.getElem?_append_left hj]
    exact hu
  | y :: l, i + 1, x, h, j, u, hu => by
    rw [ncs_cons, List.getElem?_append_right (by rw [bys_len, y.len]; omega), bys_len, y.len, show (i + 1) * 10 + j - 10 = i * 10 + j by omega]
    exact ncs_at (by simpa using h) j u hu
theorem ncs_sub {l : List D.Tg} {j : Nat} {u : Value} (h : (ncs l)[j]? = some u) : ∃ x, l[j / 10]? = some x ∧ (bys x.l)[j % 10]? = some u := by
  have hj := (List.getElem?_eq_some_iff.1 h).1
  rw [ncs_len] at hj
  have hl : j / 10 < l.length := by omega
  have hx : l[j / 10]? = some (l[j / 10]) := List.getElem?_eq_getElem hl
  refine ⟨_, hx, ?_⟩
  have hb : j % 10 < (bys (l[j / 10]).l).length := by rw [bys_len, D.Tg.len]; omega
  have := ncs_at hx (j % 10) _ (List.getElem?_eq_getElem hb)
  rw [show j / 10 * 10 + j % 10 = j by omega, h] at this
  rw [List.getElem?_eq_getElem hb, ← this]
theorem ncs_inj {l k : List D.Tg} (h : ncs l = ncs k) : l = k := by
  apply List.ext_getElem?
  intro i
  have hl : l.length = k.length := by
    have := congrArg List.length h
    rw [ncs_len, ncs_len] at this; omega
  by_cases hi : i < l.length
  · have e1 : l[i]? = some l[i] := List.getElem?_eq_getElem hi
    have e2 : k[i]? = some (k[i]'(by omega)) := List.getElem?_eq_getElem (by omega)
    rw [e1, e2]
    congr 1
    refine D.Tg.eq (bys_inj (List.ext_getElem? fun j => ?_))
    by_cases hj : j < 10
    · have f1 : (bys l[i].l)[j]? = some ((bys l[i].l)[j]'(by rw [bys_len, D.Tg.len]; exact hj)) := List.getElem?_eq_getElem _
      have f2 : (bys (k[i]'(by omega)).l)[j]? = some ((bys (k[i]'(by omega)).l)[j]'(by rw [bys_len, D.Tg.len]; exact hj)) := List.getElem?_eq_getElem _
      have := (ncs_at e1 j _ f1).symm.trans ((congrArg (·[i * 10 + j]?) h).trans (ncs_at e2 j _ f2))
      rw [f1, f2, this]
    · rw [List.getElem?_eq_none (by rw [bys_len, D.Tg.len]; omega), List.getElem?_eq_none (by rw [bys_len, D.Tg.len]; omega)]
  · rw [List.getElem?_eq_none (by omega), List.getElem?_eq_none (by omega)]

/-- A slice of names, nil let in. -/
structure NRow (w : World) (A : Option Addr) (n : Nat) (l : List D.Tg) : Prop where
  len : l.length = n
  tow : 0 < n → ∃ ad, A = some ad ∧ ad.block < w.heap.size ∧ ∀ i x, l[i]? = some x → At w (ad.add (i * 10)) x
section
variable {w w' : World} {A : Option Addr} {n : Nat} {l : List D.Tg}
theorem NRow.nil (w : World) (A : Option Addr) : NRow w A 0 [] := ⟨rfl, fun h => absurd h (by omega)⟩
theorem NRow.kept (h : NRow w A n l) (hs : w.heap.size ≤ w'.heap.size) (hk : ∀ ad, A = some ad → w'.heap[ad.block]? = w.heap[ad.block]?) : NRow w' A n l := ⟨h.len, fun hn => by
  obtain ⟨ad, e, hl, hc⟩ := h.tow hn
  exact ⟨ad, e, Nat.lt_of_lt_of_le hl hs, fun i x hx => (hc i x hx).tow (by rw [block_of_add]; exact hk ad e)⟩⟩
theorem NRow.on (h : NRow w A n l) (hb : Below w.heap.size w w') : NRow w' A n l := ⟨h.len, fun hn => by
  obtain ⟨ad, e, hl, hc⟩ := h.tow hn
  exact ⟨ad, e, Nat.lt_of_lt_of_le hl hb.size, fun i x hx => (hc i x hx).tow (by rw [block_of_add]; exact hb.block _ hl)⟩⟩
theorem NRow.drewN (h : NRow w A n l) (k : Nat) : NRow (w.drewN k) A n l := h.on ⟨rfl, rfl, rfl, Nat.le_refl _, fun _ _ => rfl⟩
theorem NRow.alloc (h : NRow w A n l) (o : Obj) : NRow (w.alloc o) A n l := h.on ((Below.refl _ _).alloc (Nat.le_refl _) o)
theorem NRow.rd {i : Nat} {x : D.Tg} (h : NRow w A n l) (hx : l[i]? = some x) : ∃ ad, A = some ad ∧ ad.block < w.heap.size ∧ rd w (ad.add (i * 10)) = some x := by
  have := (List.getElem?_eq_some_iff.1 hx).1
  obtain ⟨ad, e, hl, hc⟩ := h.tow (by have := h.len; omega)
  exact ⟨ad, e, hl, rd_of (hc i x hx)⟩
theorem NRow.cut (h : NRow w A n l) {k cap : Nat} (hk : k ≤ n) (hc : n ≤ cap) : NRow w (if cap = k then A else A.map (·.add (k * 10))) (n - k) (l.drop k) :=
  ⟨by have := h.len; simp; omega, fun hn => by
    obtain ⟨ad, rfl, hb, hcell⟩ := h.tow (by omega)
    rw [if_neg (by omega)]
    refine ⟨ad.add (k * 10), rfl, by rw [block_of_add]; exact hb, fun i x hx => ?_⟩
    rw [add_of_add, ← Nat.add_mul]
    exact hcell _ x (by rw [← hx, List.getElem?_drop])⟩
theorem NRow.take (h : NRow w A n l) {k : Nat} (hk : k ≤ n) : NRow w A k (l.take k) :=
  ⟨by have := h.len; simp; omega, fun h0 => by
    obtain ⟨ad, e, hl, hc⟩ := h.tow (by omega)
    refine ⟨ad, e, hl, fun i x hx => hc i x ?_⟩
    rw [List.getElem?_take] at hx
    split at hx
    · exact hx
    · cases hx⟩
theorem nat_lt {i : Nat} (h : i < l.length) : ∃ x, l[i]? = some x := ⟨l[i], List.getElem?_eq_getElem h⟩
theorem nrow_new (w : World) (e : TypeId) (H : Nat) (l : List D.Tg) (hH : H = w.heap.size) (cs : Array Value) (hc : cs.toList = ncs l) : NRow (w.alloc (.cells cs e)) (some ⟨H, 0, none⟩) l.length l := by
  subst hH
  refine ⟨rfl, fun _ => ⟨_, rfl, by simp, fun i x hx j u hu => ?_⟩⟩
  rw [add_of_add]
  exact World.news_of_block (heap_alloc_new w _) _ u (by rw [hc]; exact ncs_at hx j u hu)
end

/-- A slice of names of the call's own, or nil. -/
structure NOwn (base e : Nat) (w : World) (A : Option Addr) (n c : Nat) (l : List D.Tg) : Prop where
  row : w.ownsRow base e 10 (.slice A n c) n (ncs l)
  base : base ≤ w.heap.size
section
variable {base e n c : Nat} {w w' : World} {A : Option Addr} {l : List D.Tg}
theorem NOwn.len (h : NOwn base e w A n c l) : l.length = n := by have := h.row.1; rw [ncs_len] at this; omega
theorem NOwn.cap (h : NOwn base e w A n c l) : n ≤ c ∧ c ≤ maxLen := by
  rcases h.row.2 with ⟨e, h0⟩ | ⟨g, cap, cur, e, _, _, h1, h2, _⟩
  · injection e with _ _ e2
    exact ⟨by omega, by rw [e2]; exact Nat.zero_le _⟩
  · injection e with _ _ e2
    subst e2
    exact ⟨h1, h2⟩
theorem NOwn.to_row (h : NOwn base e w A n c l) : NRow w A n l :=
  ⟨h.len, fun hn => by
    obtain ⟨g, cap, e, _, hlt⟩ := h.row.form hn
    have hA : A = some ⟨g, 0, none⟩ := by injection e
    subst hA
    exact ⟨_, rfl, hlt, fun i x hx j u hu => by
      rw [add_of_add]
      exact h.row.cells (g := g) rfl _ _ (ncs_at hx j u hu)⟩⟩
theorem NOwn.nil (h : base ≤ w.heap.size) : NOwn base e w none 0 0 [] := ⟨World.ownsRow_nil _ _ _ _, h⟩
theorem NOwn.kept (h : NOwn base e w A n c l) (hs : w.heap.size ≤ w'.heap.size) (hk : ∀ g, (Value.slice A n c).ownBlock = some g → w'.heap[g]? = w.heap[g]?) : NOwn base e w' A n c l := by
  refine ⟨⟨h.row.1, ?_⟩, Nat.le_trans h.base hs⟩
  rcases h.row.2 with hn | ⟨g, cap, cur, e, hg, hh, r⟩
  · exact .inl hn
  · refine .inr ⟨g, cap, cur, e, hg, ?_, r⟩
    rw [hk g (by rw [e]; rfl)]
    exact hh
theorem NOwn.lt (h : NOwn base e w A n c l) : ∀ k, (Value.slice A n c).ownBlock = some k → base ≤ k ∧ k < w.heap.size := h.row.lt
theorem NOwn.on (h : NOwn base e w A n c l) (hb : Below w.heap.size w w') : NOwn base e w' A n c l := h.kept hb.size fun g hg => hb.block g (h.lt g hg).2
theorem NOwn.drewN (h : NOwn base e w A n c l) (k : Nat) : NOwn base e (w.drewN k) A n c l := ⟨h.row, h.base⟩
theorem NOwn.alloc (h : NOwn base e w A n c l) (o : Obj) : NOwn base e (w.alloc o) A n c l := h.on ((Below.refl _ _).alloc (Nat.le_refl _) o)
theorem NOwn.low {b : Nat} (h : NOwn base e w A n c l) (hb : b ≤ base) : NOwn b e w A n c l := by
  refine ⟨⟨h.row.1, ?_⟩, Nat.le_trans hb h.base⟩
  rcases h.row.2 with hz | ⟨g, cap, cur, e, hg, r⟩
  · exact .inl hz
  · exact .inr ⟨g, cap, cur, e, Nat.le_trans hb hg, r⟩
end

section
variable (w : World)
end

theorem ten (x : D.Tg) : ∃ a b c d e f g h i j : Value, nc x = #[a, b, c, d, e, f, g, h, i, j] := by
  have := x.len
  match hx : x.l, this with
  | [a, b, c, d, e, f, g, h, i, j], _ => exact ⟨_, _, _, _, _, _, _, _, _, _, by rw [nc, hx]; rfl⟩
abbrev z10 : Array Value := #[.int .u8 0, .int .u8 0, .int .u8 0, .int .u8 0, .int .u8 0, .int .u8 0, .int .u8 0, .int .u8 0, .int .u8 0, .int .u8 0]
theorem nrow_one (w : World) (e : TypeId) (H : Nat) (x : D.Tg) (hH : H = w.heap.size) : NRow (w.alloc (.cells (nc x) e)) (some ⟨H, 0, none⟩) 1 [x] := nrow_new w e H [x] hH _ (by simp [nc, ncs])
theorem st_z (p : Value) : st 28 p (.agg #[.int .u8 0, .int .u8 0, .int .u8 0, .int .u8 0, .int .u8 0, .int .u8 0, .int .u8 0, .int .u8 0, .int .u8 0, .int .u8 0]) = st 28 p (.agg (nc D.zero)) := rfl
theorem ne_z (v : Value) : ne10 28 v (.agg #[.int .u8 0, .int .u8 0, .int .u8 0, .int .u8 0, .int .u8 0, .int .u8 0, .int .u8 0, .int .u8 0, .int .u8 0, .int .u8 0]) = ne10 28 v (.agg (nc D.zero)) := rfl
theorem eq_z (v : Value) : eq10 28 v (.agg #[.int .u8 0, .int .u8 0, .int .u8 0, .int .u8 0, .int .u8 0, .int .u8 0, .int .u8 0, .int .u8 0, .int .u8 0, .int .u8 0]) = eq10 28 v (.agg (nc D.zero)) := rfl
/-- A tag out of a result's variable. -/
noncomputable def lv (t : TypeId) (a : Addr) : Sem Value := loadVar t a
theorem lv_a (a : Addr) : loadVar 38 a = lv 38 a := rfl
theorem lv_n (a : Addr) : loadVar 28 a = lv 28 a := rfl
theorem run_lv (w : World) (a : Addr) (t : TypeId) (ht : t = 38 ∨ t = 28) : (lv t a).run Try.prog w = (rd w a).elim (bad t a w) fun x => .ok (.agg (nc x)) w := by
  rw [← run_ld w a t ht]
  simp only [lv, ld, Instr.loadAt, Instr.sureAddr, Sem.run_bind, Sem.run_pure, Result.andThen_ok]
theorem run_lv_a (w : World) (a : Addr) : (lv 38 a).run Try.prog w = (rd w a).elim (bad 38 a w) fun x => .ok (.agg (nc x)) w := run_lv w a _ (.inl rfl)
theorem run_lv_n (w : World) (a : Addr) : (lv 28 a).run Try.prog w = (rd w a).elim (bad 28 a w) fun x => .ok (.agg (nc x)) w := run_lv w a _ (.inr rfl)

theorem lv_of {w : World} {a : Addr} {x : D.Tg} (h : rd w a = some x) : (loadVar 28 a).run Try.prog w = .ok (.agg (nc x)) w := (run_lv_n w a).trans (by rw [h]; rfl)
theorem Blk.c {w : World} {g : Nat} {t : TypeId} {cs : Array Value} (h : Blk w g t cs) (i : Nat) : w.cell? ⟨g, i, none⟩ = cs[i]? := cell_of_row w g i cs t (0, 0) h.out
theorem Blk.f {w : World} {g : Nat} {t : TypeId} {cs : Array Value} (h : Blk w g t cs) (i : Nat) : w.frozen? ⟨g, i, none⟩ = false := by
  have := h.out
  simp [World.frozen?, this]
theorem Blk.put {w : World} {g : Nat} {t : TypeId} {cs : Array Value} (h : Blk w g t cs) (i : Nat) (u : Value) : Blk (w.setCell ⟨g, i, none⟩ u) g t (cs.setIfInBounds i u) := by
  have := h.out
  exact ⟨by simp [World.setCell, Array.getElem?_modify, this]⟩
theorem Blk.far {w : World} {g : Nat} {t : TypeId} {cs : Array Value} (h : Blk w g t cs) {p : Addr} (hp : g ≠ p.block) (u : Value) : Blk (w.setCell p u) g t cs := ⟨(Below.heap_setCell w p u g hp).trans h.out⟩
theorem Blk.ne_ {w : World} {g g' : Nat} {t t' : TypeId} {cs cs' : Array Value} (h : Blk w g t cs) (h' : Blk w g' t' cs') (hne : t ≠ t') : g ≠ g' := by
  rintro rfl
  have h1 := h.out
  rw [h'.out] at h1
  injection h1 with h1
  injection h1 with _ ht
  exact hne ht.symm
theorem blk_drewN {w : World} {g : Nat} {t : TypeId} {cs : Array Value} (h : Blk w g t cs) (q : Nat) : Blk (w.drewN q) g t cs := ⟨h.out⟩
theorem below_drewN {B : Nat} {a w : World} (h : Below B a w) (n : Nat) : Below B a (w.drewN n) := ⟨h.os, h.tape, h.output, h.size, h.block⟩
theorem below_alloc_ (w : World) (o : Obj) : Below w.heap.size w (w.alloc o) := (Below.refl _ _).alloc (Nat.le_refl _) o
/-- A whole name into a block that is known whole. -/
theorem st_blk {w : World} {g t : TypeId} {cs : Array Value} (ht : t = 38 ∨ t = 28) (h : Blk w g t cs) (hs : cs.size = 10) (x : D.Tg) :
    ∃ w', (st t (.pointer (some ⟨g, 0, none⟩)) (.agg (nc x))).run Try.prog w = .ok () w' ∧ Blk w' g t (nc x) ∧ w.grownBy w' (some g) := by
  have hr : (storeVar t ⟨g, 0, none⟩ (.agg (nc x))).run Try.prog w = .ok () (w.setRow g (nc x)) :=
    run_storeVar_row (P := Try.prog) w g t t cs (nc x) h.out (by rcases ht with rfl | rfl <;> (rw [nc_size]; kernel_rfl)) (by rw [nc_size, hs]) (nc_one x)
  refine ⟨w.setRow g (nc x), ?_, ⟨?_⟩, ⟨rfl, rfl, rfl, by simp [World.setRow], fun i _ hi => ?_⟩⟩
  · simp only [st, Instr.storeAt, Instr.sureAddr, Sem.run_bind, Sem.run_pure, Result.andThen_ok]
    exact hr
  · have := h.out
    simp [World.setRow, Array.getElem?_modify, this]
  · have hne : ¬ g = i := fun e => hi (by rw [e])
    simp [World.setRow, Array.getElem?_modify, hne]

/-- Is a block one of ten cells? -/
def Ten (w : World) (g : Nat) : Prop := ∃ t cs, Blk w g t cs ∧ cs.size = 10
open Classical in
noncomputable def tn (w : World) (g : Nat) : Bool := decide (Ten w g)
theorem tn_of {w : World} {g : Nat} {t : TypeId} {cs : Array Value} (h : Blk w g t cs) (hs : cs.size = 10) : tn w g = true := by
  classical
  exact decide_eq_true (show Ten w g from ⟨t, cs, h, hs⟩)
theorem tn_blk {w : World} {g : Nat} (h : tn w g = true) : ∃ t cs, Blk w g t cs ∧ cs.size = 10 := by
  classical
  exact of_decide_eq_true (p := Ten w g) h
theorem tn_lt {w : World} {g : Nat} (h : tn w g = true) : g < w.heap.size := by
  obtain ⟨t, cs, hb, _⟩ := tn_blk h
  exact hb.lt
theorem tn_to {w w' : World} {g : Nat} (hk : w'.heap[g]? = w.heap[g]?) : tn w' g = tn w g := by
  unfold tn
  congr 1
  exact propext ⟨fun ⟨t, cs, h, hs⟩ => ⟨t, cs, ⟨hk.symm.trans h.out⟩, hs⟩, fun ⟨t, cs, h, hs⟩ => ⟨t, cs, ⟨hk.trans h.out⟩, hs⟩⟩
theorem tn_on {w w' : World} {g : Nat} (h : tn w g = true) (hb : Below w.heap.size w w') : tn w' g = true := (tn_to (hb.block _ (tn_lt h))).trans h
theorem tn_new (w : World) (n : Nat) (t : TypeId) (cs : Array Value) (h : n = w.heap.size) : tn (w.alloc (.cells cs t)) n = (cs.size == 10) := by
  subst h
  have hb := Blk.new w t cs
  by_cases hs : cs.size = 10
  · rw [tn_of hb hs]; simp [hs]
  · cases e : tn (w.alloc (.cells cs t)) w.heap.size
    · simp [hs]
    · obtain ⟨t', cs', h', hs'⟩ := tn_blk e
      have := h'.out
      rw [hb.out] at this
      injection this with this
      injection this with e1 e2
      subst e1
      exact absurd hs' hs
theorem tn_old (w : World) (g : Nat) (o : Obj) (h : g < w.heap.size) : tn (w.alloc o) g = tn w g := tn_to (Below.heap_alloc w o _ h)
theorem tn_drew (w : World) (g : Nat) : tn w.drew g = tn w g := tn_to rfl
theorem tn_drewN (w : World) (g n : Nat) : tn (w.drewN n) g = tn w g := tn_to rfl
theorem heap_setRow (w : World) (g k : Nat) (cs : Array Value) (h : k ≠ g) : (w.setRow g cs).heap[k]? = w.heap[k]? := setRow_other w g k cs h
theorem tn_setRow (w : World) (g h : Nat) (x : D.Tg) (hg : tn w g = true) : tn (w.setRow h (nc x)) g = true := by
  by_cases e : g = h
  · subst e
    obtain ⟨t, cs, hb, hs⟩ := tn_blk hg
    have := hb.out
    exact tn_of (t := t) (cs := nc x) ⟨by simp [World.setRow, Array.getElem?_modify, this]⟩ (nc_size x)
  · exact (tn_to (heap_setRow w h g _ e)).trans hg
theorem rd_set (w : World) (g : Nat) (x : D.Tg) (h : tn w g = true) : rd (w.setRow g (nc x)) ⟨g, 0, none⟩ = some x := by
  obtain ⟨t, cs, hb, hs⟩ := tn_blk h
  have := hb.out
  exact rd_blk (t := t) ⟨by simp [World.setRow, Array.getElem?_modify, this]⟩
theorem rd_far (w : World) (g : Nat) (cs : Array Value) (a : Addr) (h : a.block ≠ g) : rd (w.setRow g cs) a = rd w a := rd_to (heap_setRow w g _ cs h)
noncomputable def badst (t : TypeId) (g : Nat) (x : D.Tg) (w : World) : Result Unit := (Instr.storeAt t (.pointer (some ⟨g, 0, none⟩)) (.agg (nc x))).run Try.prog w
set_option maxRecDepth 100000 in
theorem run_sw (w : World) (t : TypeId) (ht : t = 38 ∨ t = 28) (g : Nat) (x : D.Tg) : (st t (.pointer (some ⟨g, 0, none⟩)) (.agg (nc x))).run Try.prog w = bif tn w g then .ok () (w.setRow g (nc x)) else badst t g x w := by
  cases h : tn w g with
  | false => rfl
  | true =>
    obtain ⟨t', cs, hb, hs⟩ := tn_blk h
    have hr : (storeVar t ⟨g, 0, none⟩ (.agg (nc x))).run Try.prog w = .ok () (w.setRow g (nc x)) :=
      run_storeVar_row (P := Try.prog) w g t' t cs (nc x) hb.out (by rcases ht with rfl | rfl <;> (rw [nc_size]; kernel_rfl)) (by rw [nc_size, hs]) (nc_one x)
    simp only [st, Instr.storeAt, Instr.sureAddr, Sem.run_bind, Sem.run_pure, Result.andThen_ok, cond_true]
    exact hr
theorem run_sw_a (w : World) (g : Nat) (x : D.Tg) : (st 38 (.pointer (some ⟨g, 0, none⟩)) (.agg (nc x))).run Try.prog w = bif tn w g then .ok () (w.setRow g (nc x)) else badst 38 g x w := run_sw w _ (.inl rfl) g x
theorem run_sw_n (w : World) (g : Nat) (x : D.Tg) : (st 28 (.pointer (some ⟨g, 0, none⟩)) (.agg (nc x))).run Try.prog w = bif tn w g then .ok () (w.setRow g (nc x)) else badst 28 g x w := run_sw w _ (.inr rfl) g x
theorem setRow_alloc (w : World) (n : Nat) (cs cs' : Array Value) (t : TypeId) (h : n = w.heap.size) : (w.alloc (.cells cs t)).setRow n cs' = w.alloc (.cells cs' t) := by
  subst h
  have := heap_alloc_new w (.cells cs t)
  simp only [World.setRow, World.alloc]
  congr 1
  apply Array.ext_getElem?
  intro k
  rw [Array.getElem?_modify]
  by_cases e : w.heap.size = k
  · subst e; simp
  · rw [if_neg e]
    by_cases h : k < w.heap.size
    · simp [Array.getElem?_push, h, Nat.ne_of_lt h]
    · rw [Array.getElem?_eq_none (by simp; omega), Array.getElem?_eq_none (by simp; omega)]

open Classical in
/-- The bytes of a part. -/
noncomputable def rp (w : World) (a : Addr) (n : Nat) : Option (List Nat) := if h : ∃ l : List Nat, l.length = n ∧ ∀ j u, (bys l)[j]? = some u → w.cell? (a.add j) = some u then some (Classical.choose h) else none
theorem rp_of {w : World} {a : Addr} {n : Nat} {l : List Nat} (hn : l.length = n) (hc : ∀ j u, (bys l)[j]? = some u → w.cell? (a.add j) = some u) : rp w a n = some l := by
  have hx : ∃ l : List Nat, l.length = n ∧ ∀ j u, (bys l)[j]? = some u → w.cell? (a.add j) = some u := ⟨l, hn, hc⟩
  rw [rp, dif_pos hx]
  congr 1
  obtain ⟨h1, h2⟩ := Classical.choose_spec hx
  refine bys_inj (List.ext_getElem? fun j => ?_)
  by_cases hj : j < n
  · have e1 : (bys (Classical.choose hx))[j]? = some ((bys (Classical.choose hx))[j]'(by rw [bys_len, h1]; exact hj)) := List.getElem?_eq_getElem _
    have e2 : (bys l)[j]? = some ((bys l)[j]'(by rw [bys_len, hn]; exact hj)) := List.getElem?_eq_getElem _
    have := (h2 j _ e1).symm.trans (hc j _ e2)
    rw [e1, e2, this]
  · rw [List.getElem?_eq_none (by rw [bys_len, h1]; omega), List.getElem?_eq_none (by rw [bys_len, hn]; omega)]
theorem rp_at {w : World} {a : Addr} {n : Nat} {l : List Nat} (h : rp w a n = some l) : l.length = n ∧ ∀ j u, (bys l)[j]? = some u → w.cell? (a.add j) = some u := by
  unfold rp at h
  split at h
  · rename_i hx
    injection h with h
    rw [← h]
    exact Classical.choose_spec hx
  · cases h
theorem add_at (g k j : Nat) : (⟨g, k, none⟩ : Addr).add j = ⟨g, k + j, none⟩ := by simp [Addr.add]
theorem rd_parts {w : World} {g : Nat} {x : D.Tg} (h : rd w ⟨g, 0, none⟩ = some x) : rp w ⟨g, 0, none⟩ 3 = some (D.pl x) ∧ rp w ⟨g, 3, none⟩ 4 = some (D.ps x) ∧ rp w ⟨g, 7, none⟩ 3 = some (D.pr x) := by
  have hx := x.len
  have hc := at_of h
  refine ⟨rp_of (by simp [D.pl]; omega) fun j u hu => ?_, rp_of (by simp [D.ps]; omega) fun j u hu => ?_, rp_of (by simp [D.pr]; omega) fun j u hu => ?_⟩
  · refine hc j u ?_
    rw [D.pl, ← bys_take, List.getElem?_take] at hu
    split at hu
    · exact hu
    · cases hu
  · rw [D.ps, ← bys_take, ← bys_drop, List.getElem?_take] at hu
    split at hu
    · rw [List.getElem?_drop] at hu
      have := hc (3 + j) u hu
      rw [add_at, Nat.zero_add] at this
      rw [add_at]
      exact this
    · cases hu
  · rw [D.pr, ← bys_drop, List.getElem?_drop] at hu
    have := hc (7 + j) u hu
    rw [add_at, Nat.zero_add] at this
    rw [add_at]
    exact this
noncomputable def lp (t : TypeId) (v : Value) : Sem Value := Instr.loadAt t v
noncomputable def badp (t : TypeId) (a : Addr) (w : World) : Result Value := (Instr.loadAt t (.pointer (some a))).run Try.prog w
theorem lp_3 (v : Value) : Instr.loadAt 25 v = lp 25 v := rfl
theorem lp_4 (v : Value) : Instr.loadAt 26 v = lp 26 v := rfl
def pv (l : List Nat) : Array Value := (bys l).toArray
set_option maxRecDepth 100000 in
theorem run_lp_3 (w : World) (a : Addr) : (lp 25 (.pointer (some a))).run Try.prog w = (rp w a 3).elim (badp 25 a w) fun l => .ok (.agg (pv l)) w := by
  cases h : rp w a 3 with
  | none => rfl
  | some l =>
    obtain ⟨hn, hc⟩ := rp_at h
    have hl := run_loadCells_list (P := Try.prog) w a (bys l) hc
    rw [bys_len, hn] at hl
    simp only [lp, Instr.loadAt, Instr.sureAddr, Sem.run_bind, Sem.run_pure, Result.andThen_ok, loadVar, Try.isAgg25, Try.sizeOf25, if_true, hl]
    rfl
set_option maxRecDepth 100000 in
theorem run_lp_4 (w : World) (a : Addr) : (lp 26 (.pointer (some a))).run Try.prog w = (rp w a 4).elim (badp 26 a w) fun l => .ok (.agg (pv l)) w := by
  cases h : rp w a 4 with
  | none => rfl
  | some l =>
    obtain ⟨hn, hc⟩ := rp_at h
    have hl := run_loadCells_list (P := Try.prog) w a (bys l) hc
    rw [bys_len, hn] at hl
    simp only [lp, Instr.loadAt, Instr.sureAddr, Sem.run_bind, Sem.run_pure, Result.andThen_ok, loadVar, Try.isAgg26, Try.sizeOf26, if_true, hl]
    rfl
end Go.Proofs.Ytkhjnfplcaffnaa
