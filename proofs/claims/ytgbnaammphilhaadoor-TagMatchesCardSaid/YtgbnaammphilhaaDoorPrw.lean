/-
  Rows of tags' parts in memory; the document's Chain.
-/
import Derived.Test.YtgbnaammphilhaaDoorRof
set_option linter.unusedVariables false
set_option linter.unusedSimpArgs false
namespace Go.Proofs.YtgbnaammphilhaaDoor
open Go.RowKit
attribute [local go_sem ↓] Go.wp_at_zero Go.wp_at_succ

/-- A slice of parts, nil let in. -/
structure FRow (w : World) (A : Option Addr) (n : Nat) (l : List D.Pt) : Prop where
  len : l.length = n
  ats : 0 < n → ∃ ad, A = some ad ∧ ad.block < w.heap.size ∧ ∀ i f, l[i]? = some f →
    w.cell? (ad.add (i * 3)) = some (.string (D.sb f.l)) ∧ w.cell? (ad.add (i * 3 + 1)) = some (.string (D.sb f.s)) ∧ w.cell? (ad.add (i * 3 + 2)) = some (.string (D.sb f.r))
theorem FRow.on {w w' : World} {A : Option Addr} {n : Nat} {l : List D.Pt} (h : FRow w A n l) (hb : Below w.heap.size w w') : FRow w' A n l := ⟨h.len, fun hn => by
  obtain ⟨ad, e, hl, hc⟩ := h.ats hn
  have hk := hb.block ad.block hl
  refine ⟨ad, e, Nat.lt_of_lt_of_le hl hb.size, fun i f hf => ?_⟩
  obtain ⟨h1, h2, h3⟩ := hc i f hf
  exact ⟨(World.cell?_of_block (w := w) (by rw [block_of_add]; exact hk)).trans h1, (World.cell?_of_block (w := w) (by rw [block_of_add]; exact hk)).trans h2, (World.cell?_of_block (w := w) (by rw [block_of_add]; exact hk)).trans h3⟩⟩
theorem add_off (a : Addr) (i j : Nat) : a.add (i + (j + 1)) = ⟨(a.add i).block, (a.add i).off + (j + 1), none⟩ := by
  unfold Addr.add
  by_cases hi : i = 0
  · subst hi; simp
  · simp [hi, Nat.add_assoc]
theorem FRow.at_ {w : World} {A : Option Addr} {n i : Nat} {l : List D.Pt} {f : D.Pt} (h : FRow w A n l) (hf : l[i]? = some f) : ∃ ad, A = some ad ∧
    w.cell? (ad.add (i * 3)) = some (.string (D.sb f.l)) ∧ w.cell? ⟨(ad.add (i * 3)).block, (ad.add (i * 3)).off + 1, none⟩ = some (.string (D.sb f.s)) ∧ w.cell? ⟨(ad.add (i * 3)).block, (ad.add (i * 3)).off + 2, none⟩ = some (.string (D.sb f.r)) := by
  obtain ⟨ad, e, _, hc⟩ := h.ats (by have := (List.getElem?_eq_some_iff.1 hf).1; have := h.len; omega)
  obtain ⟨h0, h1, h2⟩ := hc i f hf
  exact ⟨ad, e, h0, by rw [← add_off ad (i * 3) 0]; exact h1, by rw [← add_off ad (i * 3) 1]; exact h2⟩
theorem fat_lt {l : List D.Pt} {i : Nat} (h : i < l.length) : ∃ f, l[i]? = some f ∧ f ∈ l := ⟨l[i], List.getElem?_eq_getElem h, List.getElem_mem h⟩

def fcs (l : List D.Pt) : List Value := l.flatMap fun f => [.string (D.sb f.l), .string (D.sb f.s), .string (D.sb f.r)]
theorem fcs_cons (f : D.Pt) (l : List D.Pt) : fcs (f :: l) = .string (D.sb f.l) :: .string (D.sb f.s) :: .string (D.sb f.r) :: fcs l := rfl
theorem fcs_app (l k : List D.Pt) : fcs (l ++ k) = fcs l ++ fcs k := by simp [fcs]
theorem fcs_len (l : List D.Pt) : (fcs l).length = l.length * 3 := by
  induction l with
  | nil => rfl
  | cons f l ih => rw [fcs_cons]; simp [ih]; omega
theorem fcs_at : ∀ {l : List D.Pt} {i : Nat} {f : D.Pt}, l[i]? = some f → (fcs l)[i * 3]? = some (.string (D.sb f.l)) ∧ (fcs l)[i * 3 + 1]? = some (.string (D.sb f.s)) ∧ (fcs l)[i * 3 + 2]? = some (.string (D.sb f.r))
  | [], i, f, h => by simp at h
  | g :: l, 0, f, h => by
    simp at h
    subst h
    exact ⟨rfl, rfl, rfl⟩
  | g :: l, i + 1, f, h => by
    have ih := fcs_at (l := l) (i := i) (f := f) (by simpa using h)
    rw [fcs_cons, show (i + 1) * 3 = i * 3 + 3 by omega]
    exact ih
theorem fcs_one (l : List D.Pt) : ∀ u ∈ fcs l, u.oneCell' = true := by
  intro u hu
  obtain ⟨f, _, hf⟩ := List.mem_flatMap.1 hu
  simp at hf
  rcases hf with rfl | rfl | rfl <;> rfl
/-- A slice of parts of the call's own. -/
structure FOwn (base : Nat) (w : World) (A : Option Addr) (n c : Nat) (l : List D.Pt) : Prop where
  row : w.ownsRow base 23 3 (.slice A n c) n (fcs l)
  base : base ≤ w.heap.size
theorem FOwn.len {base n c : Nat} {w : World} {A : Option Addr} {l : List D.Pt} (h : FOwn base w A n c l) : l.length = n := by have := h.row.1; rw [fcs_len] at this; omega
theorem FOwn.to_row {base n c : Nat} {w : World} {A : Option Addr} {l : List D.Pt} (h : FOwn base w A n c l) : FRow w A n l :=
  ⟨h.len, fun hn => by
    obtain ⟨g, cap, e, _, hlt⟩ := h.row.form hn
    have hA : A = some ⟨g, 0, none⟩ := by injection e
    subst hA
    exact ⟨_, rfl, hlt, fun i f hf => by
      obtain ⟨h0, h1, h2⟩ := fcs_at hf
      exact ⟨h.row.cells (g := g) rfl _ _ h0, h.row.cells (g := g) rfl _ _ h1, h.row.cells (g := g) rfl _ _ h2⟩⟩⟩
theorem FOwn.cap {base n c : Nat} {w : World} {A : Option Addr} {l : List D.Pt} (h : FOwn base w A n c l) : n ≤ c ∧ c ≤ maxLen := by
  rcases h.row.2 with ⟨e, h0⟩ | ⟨g, cap, cur, e, _, _, h1, h2, _⟩
  · injection e with _ _ e2
    exact ⟨by omega, by rw [e2]; exact Nat.zero_le _⟩
  · injection e with _ _ e2
    subst e2
    exact ⟨h1, h2⟩
theorem FOwn.nil {base : Nat} {w : World} (h : base ≤ w.heap.size) : FOwn base w none 0 0 [] := ⟨World.ownsRow_nil _ _ _ _, h⟩
theorem FOwn.more {base n c : Nat} {w w' : World} {A : Option Addr} {l : List D.Pt} (h : FOwn base w A n c l) (hb : Below w.heap.size w w') : FOwn base w' A n c l := by
  refine ⟨⟨h.row.1, ?_⟩, Nat.le_trans h.base hb.size⟩
  rcases h.row.2 with hn | ⟨g, cap, cur, e, hg, hh, r⟩
  · exact .inl hn
  · refine .inr ⟨g, cap, cur, e, hg, ?_, r⟩
    rw [hb.block g (Array.getElem?_eq_some_iff.1 hh).1]
    exact hh
theorem FOwn.block_le {base n c : Nat} {w : World} {A : Option Addr} {l : List D.Pt} (h : FOwn base w A n c l) : ∀ k, (Value.slice A n c).ownBlock = some k → base ≤ k := fun k hk => (h.row.lt k hk).1
theorem fld_info : (Tryd.prog.info? 23).map (fun i => (i.zero, i.size, i.bytes)) = some (some (.agg #[.string ⟨#[]⟩, .string ⟨#[]⟩, .string ⟨#[]⟩]), 3, 48) := by kernel_rfl

section
variable (w : World)
theorem run_fapp {base : Nat} {A : Option Addr} {n c : Nat} {l : List D.Pt} (ty : TypeId) (f : D.Pt) (g : Nat) (ho : FOwn base w A n c l) (hg : w.heap[g]? = some (.cells #[.string (D.sb f.l), .string (D.sb f.s), .string (D.sb f.r)] 23 (0, 0))) (h63 : n ≤ 1000) :
    ∃ A' c' w', (Builtin.append_ #[48, 48] ty #[.slice A n c, .slice (some ⟨g, 0, none⟩) 1 1]).run Tryd.prog w = .ok (.slice A' (n + 1) c') w' ∧
      FOwn base w' A' (n + 1) c' (l ++ [f]) ∧ w.grownBy w' (Value.slice A n c).ownBlock := by
  obtain ⟨i, hi, hz0, hz1, hz2⟩ := info_parts fld_info
  obtain ⟨v', w', hrun, h2, h3, _, _⟩ := run_append_own_at (P := Tryd.prog) w base 48 ty 23 i _ 3 48 Tryd.underlying48 hi hz0 hz1 hz2 (by kernel_rfl) (by omega) _ n (fcs l) ho.row ⟨g, 0, none⟩ 1 1 (fcs [f]) (by rw [fcs_len]; rfl) (World.news_of_block hg) (fcs_one _) (by simp only [maxLen]; omega) (by omega) ho.base
  have hs : ∃ A' c', v' = .slice A' (n + 1) c' := by
    rcases h2.2 with ⟨rfl, h0⟩ | ⟨g, cap, _, rfl, _⟩
    · omega
    · exact ⟨_, _, rfl⟩
  obtain ⟨A', c', rfl⟩ := hs
  exact ⟨A', c', w', hrun, ⟨by rw [fcs_app]; exact h2, Nat.le_trans ho.base h3.size⟩, h3⟩
theorem fapp {ops : Array Oper} {rest : List Oper} {o : Oper} {a : Act} {Q : Exit → Act → World → Prop} (hgd : o.guard = none) (s x : Operand)
    (hop : o.op = .call { callee := .builtin .append, args := #[s, x], argTypes := #[48, 48] })
    {base g : Nat} {A : Option Addr} {n c : Nat} {l : List D.Pt} {f : D.Pt} (hs : a.eval s = .slice A n c) (ho : FOwn base w A n c l) (hx : a.eval x = .slice (some ⟨g, 0, none⟩) 1 1)
    (hg : w.heap[g]? = some (.cells #[.string (D.sb f.l), .string (D.sb f.s), .string (D.sb f.r)] 23 (0, 0))) (h63 : n ≤ 1000)
    (h : ∀ A' c' w', FOwn base w' A' (n + 1) c' (l ++ [f]) → w.grownBy w' (Value.slice A n c).ownBlock → wpList Tryd.prog ops Q rest (a.put o.dst (.slice A' (n + 1) c')) w') : wpList Tryd.prog ops Q (o :: rest) a w := by
  obtain ⟨A', c', w', hrun, h2, h3⟩ := run_fapp w o.type f g ho hg h63
  refine wpList_plain hgd fun K hK => ?_
  unfold Oper.wp execOp
  simp only [hop, resolve, invoke, builtin, Sem.run_bind, Sem.run_pure, Result.andThen_ok, List.map_toArray, List.map_cons, List.map_nil, hs, hx, hrun]
  exact hK _ _ (h A' c' w' h2 h3)end
theorem fown_one {base : Nat} (w : World) (f : D.Pt) (hb : base ≤ w.heap.size) : FOwn base (w.alloc (.cells #[.string (D.sb f.l), .string (D.sb f.s), .string (D.sb f.r)] 23)) (some ⟨w.heap.size, 0, none⟩) 1 1 [f] :=
  ⟨⟨rfl, .inr ⟨w.heap.size, 1, #[.string (D.sb f.l), .string (D.sb f.s), .string (D.sb f.r)], rfl, hb, heap_alloc_new w _, by decide, by simp [maxLen], rfl, rfl⟩⟩, by simp; omega⟩
theorem FOwn.far {base n c : Nat} {w : World} {A : Option Addr} {l : List D.Pt} (h : FOwn base w A n c l) {p : Addr} (hp : p.block < base) (u : Value) : FOwn base (w.setCell p u) A n c l := by
  refine ⟨⟨h.row.1, ?_⟩, by simp [World.setCell]; exact h.base⟩
  rcases h.row.2 with hn | ⟨g, cap, cur, e, hg, hh, r⟩
  · exact .inl hn
  · refine .inr ⟨g, cap, cur, e, hg, ?_, r⟩
    rw [Below.heap_setCell _ _ _ _ (by omega)]
    exact hh
end Go.Proofs.YtgbnaammphilhaaDoor
