/-
  A long plain region walked by hand, without forks: what each slot holds, under which condition.
-/
import Derived.Test.YtcnbdfobhablbaaRhs
set_option linter.unusedVariables false
set_option linter.unusedSimpArgs false
set_option maxRecDepth 100000
namespace Go.Proofs.Ytcnbdfobhablbaa
open Go.RowKit

/-- A slot's value. -/
def ev (a : Act) (j : Nat) : Value := a.tmps.getD j undef
/-- A slot holds a value where c, else nothing. -/
structure Is (a : Act) (d : Nat) (c : Bool) (v : Value) : Prop where
  out : ev a d = bif c then v else undef
theorem Is.get {a : Act} {d : Nat} {c : Bool} {v : Value} (h : Is a d c v) (hc : c = true) : a.eval (.tmp d) = v := by
  have := h.out
  rw [hc] at this
  exact this
theorem Is.mv {a b : Act} {d : Nat} {c : Bool} {v : Value} (h : Is a d c v) (e : ev b d = ev a d) : Is b d c v := ⟨e.trans h.out⟩
theorem Is.as {a : Act} {d : Nat} {c : Bool} {v u : Value} (h : Is a d c v) (e : v = u) : Is a d c u := e ▸ h
section
variable {P : Program} {ops : Array Oper} {Q : Exit → Act → World → Prop} {a : Act} {w : World} {rest : List Oper} {o : Oper}
theorem wanted_none (hg : o.guard = none) : Region.wanted o (yielded ops a.tmps) = true := by simp [Region.wanted, hg]
theorem wanted_some {i d : Nat} {bb c x : Bool} (hg : o.guard = some (i, bb)) (hd : (ops[i]?).bind (·.dst) = some d) (hs : d < a.tmps.size) (h : Is a d c (.bool x)) :
    Region.wanted o (yielded ops a.tmps) = (c && (x == bb)) := by
  have hy : yielded ops a.tmps i = if c then some x else none := by
    have h1 : a.tmps[d]? = some (ev a d) := by
      unfold ev
      rw [Array.getD_eq_getD_getElem?, Array.getElem?_eq_getElem hs]; rfl
    have h2 := h.out
    unfold yielded
    rw [hd]
    simp only [Option.bind_some, h1, h2]
    cases c <;> rfl
  simp only [Region.wanted, hg, hy]
  cases c <;> cases x <;> cases bb <;> rfl
theorem ev_put (d : Nat) (v : Value) (hs : d < a.tmps.size) (j : Nat) : ev (a.put (some d) v) j = if j = d then v else ev a j := by
  unfold ev Act.put
  by_cases h : j = d
  · subst h
    simp [Array.getD_eq_getD_getElem?, hs]
  · have h' : ¬ d = j := fun e => h e.symm
    simp [Array.getD_eq_getD_getElem?, h, h', Array.getElem?_setIfInBounds]
/-- An operation that only reckons a value. -/
theorem st_val {m : Nat} (d : Nat) (hd : o.dst = some d) (sz : a.tmps.size = m) (hm : d < m) (c : Bool) (hw : Region.wanted o (yielded ops a.tmps) = c) (v : Value) (hv : c = true → (execOp a.eval o).run P w = .ok (.value v) w)
    (K : ∀ A : Act, A.tmps.size = m → A.defers = a.defers → Is A d c v → (∀ j, j ≠ d → ev A j = ev a j) → wpList P ops Q rest A w) : wpList P ops Q (o :: rest) a w := by
  have hs : d < a.tmps.size := by omega
  have hK : ∀ u, u = (bif c then v else undef) → wpList P ops Q rest (a.put (some d) u) w := fun u hu => by
    refine K _ (by simp [Act.put, sz]) rfl ⟨?_⟩ fun j hj => ?_
    · rw [ev_put d u hs, if_pos rfl, hu]
    · rw [ev_put d u hs, if_neg hj]
  refine wpList_step fun K' hK' => ?_
  rw [hw]
  cases c
  · rw [if_neg (by decide), hd]
    exact hK' _ _ (hK _ rfl)
  · rw [if_pos rfl]
    unfold Oper.wp
    rw [hv rfl, Oper.upon_value, hd]
    exact hK' _ _ (hK _ rfl)
/-- A call that leaves the world as it is. -/
theorem st_call {m : Nat} (d : Nat) (hd : o.dst = some d) (sz : a.tmps.size = m) (hm : d < m) (c : Bool) (hw : Region.wanted o (yielded ops a.tmps) = c) (v : Value) (f : FuncId) (args : Array Value) (hv : c = true → (execOp a.eval o).run P w = .ok (.enter f args) w)
    (hc : Calls P f args w fun e w' => e = .returned v ∧ w = w')
    (K : ∀ A : Act, A.tmps.size = m → A.defers = a.defers → Is A d c v → (∀ j, j ≠ d → ev A j = ev a j) → wpList P ops Q rest A w) : wpList P ops Q (o :: rest) a w := by
  have hs : d < a.tmps.size := by omega
  have hK : ∀ u, u = (bif c then v else undef) → wpList P ops Q rest (a.put (some d) u) w := fun u hu => by
    refine K _ (by simp [Act.put, sz]) rfl ⟨?_⟩ fun j hj => ?_
    · rw [ev_put d u hs, if_pos rfl, hu]
    · rw [ev_put d u hs, if_neg hj]
  refine wpList_step fun K' hK' => ?_
  rw [hw]
  cases c
  · rw [if_neg (by decide), hd]
    exact hK' _ _ (hK _ rfl)
  · rw [if_pos rfl]
    unfold Oper.wp
    rw [hv rfl, Oper.upon_enter]
    refine hc.mono ?_
    rintro e w' ⟨rfl, rfl⟩
    rw [hd]
    exact hK' _ _ (hK _ rfl)
end
section
variable {P : Program} {F : Operand → Value} {w : World} {o : Oper}
theorem ex_move {x : Operand} {v : Value} (ho : o.op = .move x) (h : F x = v) : (execOp F o).run P w = .ok (.value v) w := by
  unfold execOp; simp [ho, h]
theorem ex_assign {x : Operand} {v : Value} (ho : o.op = .assign x) (h : F x = v) : (execOp F o).run P w = .ok (.value v) w := by
  unfold execOp; simp [ho, h]
theorem ex_not {x : Operand} {b : Bool} {t : TypeId} (ho : o.op = .unOp .not t x) (h : F x = .bool b) : (execOp F o).run P w = .ok (.value (.bool (!b))) w := by
  unfold execOp; simp [ho, h, go_sem, Op.unary]
theorem ex_pick {x y z : Operand} {b : Bool} {v : Value} (ho : o.op = .pick x y z) (h : F x = .bool b) (hv : F (bif b then y else z) = v) : (execOp F o).run P w = .ok (.value v) w := by
  unfold execOp
  cases b <;> simp_all [go_sem]
theorem ex_load {T : TypeId} {x : Operand} {p : Addr} {v : Value} (hA : ∀ w, (isAgg T).run P w = .ok false w) (ho : o.op = .load T x) (h : F x = .pointer (some p)) (hv : w.cell? p = some v) : (execOp F o).run P w = .ok (.value v) w := by
  unfold execOp; simp [ho, h, hv, hA, go_sem]
theorem ex_bin {op : BinOp} {T U : TypeId} {x y : Operand} {u v r : Value} (ho : o.op = .binOp op T x y U) (hx : F x = u) (hy : F y = v) (hv : (binOp op T u v).run P w = .ok r w) (hg : (eqGuard op T x y u v).run P w = .ok () w) : (execOp F o).run P w = .ok (.value r) w := by
  unfold execOp; simp [ho, hx, hy, hv, hg, go_sem]
theorem ex_len {x : Operand} {s : ByteArray} (ho : o.op = .call { callee := .builtin .len, args := #[x], argTypes := #[9] }) (hx : F x = .string s) : (execOp F o).run Try.prog w = .ok (.value (.int .i64 (s.size : Nat))) w := by
  unfold execOp; simp [ho, hx, go_sem, Builtin.len_, run_underlying Try.underlying9]
end
section
variable {F : Operand → Value} {w : World} {o : Oper}
theorem ex_has {x y : Operand} {u v : Value} {ts : Array TypeId} (ho : o.op = .call { callee := .value (.func 39), args := #[x, y], argTypes := ts }) (hx : F x = u) (hy : F y = v) (hf : F (.func 39) = .func (.func 39) #[] #[]) : (execOp F o).run Try.prog w = .ok (.enter 39 #[u, v]) w := by
  unfold execOp; simp [ho, hx, hy, hf, go_sem, Try.func39]
theorem ex_fa0 {x : Operand} {H : Nat} (ho : o.op = .fieldAddr 42 x 0) (hx : F x = .pointer (some ⟨H, 0, none⟩)) : (execOp F o).run Try.prog w = .ok (.value (.pointer (some ⟨H, 0, none⟩))) w := by
  unfold execOp; simp [ho, hx, go_sem, run_underlying Try.underlying42, Addr.add]
theorem ex_fa1 {x : Operand} {H : Nat} (ho : o.op = .fieldAddr 42 x 1) (hx : F x = .pointer (some ⟨H, 0, none⟩)) : (execOp F o).run Try.prog w = .ok (.value (.pointer (some ⟨H, 1, none⟩))) w := by
  unfold execOp; simp [ho, hx, go_sem, run_underlying Try.underlying42, Addr.add]
theorem ex_fa2 {x : Operand} {H : Nat} (ho : o.op = .fieldAddr 42 x 2) (hx : F x = .pointer (some ⟨H, 0, none⟩)) : (execOp F o).run Try.prog w = .ok (.value (.pointer (some ⟨H, 2, none⟩))) w := by
  unfold execOp; simp [ho, hx, go_sem, run_underlying Try.underlying42, Addr.add]
theorem ex_fa3 {x : Operand} {H : Nat} (ho : o.op = .fieldAddr 42 x 3) (hx : F x = .pointer (some ⟨H, 0, none⟩)) : (execOp F o).run Try.prog w = .ok (.value (.pointer (some ⟨H, 3, none⟩))) w := by
  unfold execOp; simp [ho, hx, go_sem, run_underlying Try.underlying42, Addr.add]
theorem ex_fa4 {x : Operand} {H : Nat} (ho : o.op = .fieldAddr 42 x 4) (hx : F x = .pointer (some ⟨H, 0, none⟩)) : (execOp F o).run Try.prog w = .ok (.value (.pointer (some ⟨H, 4, none⟩))) w := by
  unfold execOp; simp [ho, hx, go_sem, run_underlying Try.underlying42, Addr.add]
theorem ex_fa5 {x : Operand} {H : Nat} (ho : o.op = .fieldAddr 42 x 5) (hx : F x = .pointer (some ⟨H, 0, none⟩)) : (execOp F o).run Try.prog w = .ok (.value (.pointer (some ⟨H, 5, none⟩))) w := by
  unfold execOp; simp [ho, hx, go_sem, run_underlying Try.underlying42, Addr.add]
theorem ex_fa6 {x : Operand} {H : Nat} (ho : o.op = .fieldAddr 42 x 6) (hx : F x = .pointer (some ⟨H, 0, none⟩)) : (execOp F o).run Try.prog w = .ok (.value (.pointer (some ⟨H, 6, none⟩))) w := by
  unfold execOp; simp [ho, hx, go_sem, run_underlying Try.underlying42, Addr.add]
theorem ex_fa7 {x : Operand} {H : Nat} (ho : o.op = .fieldAddr 42 x 7) (hx : F x = .pointer (some ⟨H, 0, none⟩)) : (execOp F o).run Try.prog w = .ok (.value (.pointer (some ⟨H, 7, none⟩))) w := by
  unfold execOp; simp [ho, hx, go_sem, run_underlying Try.underlying42, Addr.add]
theorem ex_fa8 {x : Operand} {H : Nat} (ho : o.op = .fieldAddr 42 x 8) (hx : F x = .pointer (some ⟨H, 0, none⟩)) : (execOp F o).run Try.prog w = .ok (.value (.pointer (some ⟨H, 8, none⟩))) w := by
  unfold execOp; simp [ho, hx, go_sem, run_underlying Try.underlying42, Addr.add]
theorem bin_ne_int {k : IntKind} {T : TypeId} {u : Int} {b : Bool} (h : (u != 0) = b) : (binOp .neq T (.int k u) (.int k 0)).run Try.prog w = .ok (.bool b) w := by
  subst h
  cases k <;> simp [binOp, Op.intCmp, go_sem]
end
end Go.Proofs.Ytcnbdfobhablbaa
