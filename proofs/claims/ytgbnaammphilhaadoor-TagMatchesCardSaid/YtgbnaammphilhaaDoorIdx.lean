/-
  The law's indices, and its order of bytes: mathematics.
-/
import Derived.Test.YtgbnaammphilhaaDoorMam
import Derived.Test.YtgbnaammphilhaaDoorRin
import Derived.Test.YtgbnaammphilhaaDoorLes
set_option linter.unusedVariables false
set_option linter.unusedSimpArgs false
namespace Go.Proofs.YtgbnaammphilhaaDoor

/-- The least index from i on whose thing is asked for; -1, if there is none. -/
def D.ix {α : Type} (g : α → Bool) : List α → Nat → Int
  | [], _ => -1
  | y :: c, i => if g y then (i : Int) else D.ix g c (i + 1)
theorem ix_step {α : Type} (g : α → Bool) {c : List α} {j : Nat} {y : α} (h : c[j]? = some y) : D.ix g (c.drop j) j = if g y then (j : Int) else D.ix g (c.drop (j + 1)) (j + 1) := by
  have hj := (List.getElem?_eq_some_iff.1 h).1
  have : c.drop j = y :: c.drop (j + 1) := by rw [List.drop_eq_getElem_cons hj, (List.getElem?_eq_some_iff.1 h).2]
  rw [this, D.ix]
theorem ix_find {α : Type} (g : α → Bool) : ∀ (c : List α) (i : Nat), (c.find? g = none ∧ D.ix g c i = -1) ∨ (∃ (j : Nat) (y : _), c[j]? = some y ∧ c.find? g = some y ∧ D.ix g c i = ((i + j : Nat) : Int))
  | [], i => .inl ⟨rfl, rfl⟩
  | y :: c, i => by
    cases hg : g y with
    | true => exact .inr ⟨0, y, rfl, by simp [hg], by simp [D.ix, hg]⟩
    | false =>
      rcases ix_find g c (i + 1) with ⟨h1, h2⟩ | ⟨j, z, h1, h2, h3⟩
      · exact .inl ⟨by simp [hg, h1], by simp [D.ix, hg, h2]⟩
      · exact .inr ⟨j + 1, z, by simpa using h1, by simp [hg, h2], by simp only [D.ix, hg]; rw [if_neg (by simp), h3]; congr 1; omega⟩
/-- The first of a chain that is there, by the document's index. -/
theorem ix_tag {c : List D.Pt} {g : D.Pt → Bool} {L : List D.Tg} (h : ∀ q ∈ c, g q = decide (D.tb q ∈ L)) :
    (D.find (c.map D.tb) L = none ∧ D.ix g c 0 = -1) ∨ (∃ (j : Nat) (y : _), c[j]? = some y ∧ D.find (c.map D.tb) L = some (D.tb y) ∧ D.ix g c 0 = (j : Int)) := by
  have key : ∀ c : List D.Pt, (∀ q ∈ c, g q = decide (D.tb q ∈ L)) → D.find (c.map D.tb) L = (c.find? g).map D.tb := by
    intro c
    induction c with
    | nil => intro _; rfl
    | cons q c ih =>
      intro h
      have ih := ih fun q hq => h q (List.mem_cons_of_mem _ hq)
      unfold D.find at ih ⊢
      rw [List.map_cons, List.find?_cons, List.find?_cons, h q (List.mem_cons_self ..)]
      cases decide (D.tb q ∈ L)
      · exact ih
      · rfl
  rw [key c h]
  rcases ix_find g c 0 with ⟨h1, h2⟩ | ⟨j, y, h1, h2, h3⟩
  · exact .inl ⟨by rw [h1]; rfl, h2⟩
  · exact .inr ⟨j, y, h1, by rw [h2]; rfl, by rw [h3]; simp⟩
/-- Is a tag's parts in a list? -/
def D.G (l : List D.Pt) (e : D.Pt) : Bool := inr l (D.sb e.l) (D.sb e.s) (D.sb e.r)
theorem ix_match {p : D.Pt} (hc : D.Can p) (L : List D.Tg) : (D.find (D.cht (D.tb p)) L = none ∧ D.ix (D.G (rights L)) (D.chain p) 0 = -1) ∨
    (∃ (j : Nat) (e : D.Pt), (D.chain p)[j]? = some e ∧ D.find (D.cht (D.tb p)) L = some (D.tb e) ∧ D.ix (D.G (rights L)) (D.chain p) 0 = (j : Int)) := by
  rw [D.cht_tb hc]
  refine ix_tag fun q hq => ?_
  have hcq := D.chain_can hc q hq
  unfold D.G
  rw [inr_iff rights_can hcq, decide_eq_decide]
  exact rights_iff hcq
theorem mem_tb {c : List D.Pt} {q : D.Pt} (hc : ∀ e ∈ c, D.Can e) (hq : D.Can q) : q ∈ c ↔ D.tb q ∈ c.map D.tb := by
  constructor
  · intro h; exact List.mem_map.2 ⟨q, h, rfl⟩
  · intro h
    obtain ⟨e, he, h⟩ := List.mem_map.1 h
    rw [← D.tb_inj (hc e he) hq h]; exact he
theorem in_tb {c : List D.Pt} {q : D.Pt} (hc : ∀ e ∈ c, D.Can e) (hq : D.Can q) : D.G c q = decide (D.tb q ∈ c.map D.tb) := by
  unfold D.G
  rw [inr_iff hc hq, decide_eq_decide]
  exact mem_tb hc hq
theorem right_tb {p : D.Pt} (hc : D.Can p) : D.right (D.tb p) = true := by unfold D.right; rw [D.pt_tb hc]; rfl
theorem ix_common {p q : D.Pt} (hc : D.Can p) (hd : D.Can q) : ∃ (j : Nat) (e : D.Pt), (D.chain p)[j]? = some e ∧ D.ix (D.G (D.chain q)) (D.chain p) 0 = (j : Int) ∧ D.common (D.tb p) (D.tb q) = D.tb e ∧ D.common (D.tb q) (D.tb p) = D.tb e := by
  have h := ix_tag (c := D.chain p) (g := D.G (D.chain q)) (L := (D.chain q).map D.tb) (fun e he => in_tb (D.chain_can hd) (D.chain_can hc e he))
  obtain ⟨y, hy⟩ := common_some (right_tb hc) (right_tb hd)
  rw [D.cht_tb hc, D.cht_tb hd] at hy
  rcases h with ⟨h1, _⟩ | ⟨j, e, h1, h2, h3⟩
  · rw [h1] at hy; cases hy
  · have hk : D.common (D.tb p) (D.tb q) = D.tb e := by
      unfold D.common
      rw [D.cht_tb hc, D.cht_tb hd, h2]; rfl
    exact ⟨j, e, h1, h3, hk, by rw [common_comm (right_tb hd) (right_tb hc)]; exact hk⟩
theorem below_in {p q : D.Pt} (hc : D.Can p) (hd : D.Can q) : D.below (D.tb p) (D.tb q) = D.G (D.chain p) q := by
  rw [below_iff, in_tb (D.chain_can hc) hd, D.cht_tb hc]
theorem cmp_step {x y : List Nat} {j a b : Nat} (hx : x[j]? = some a) (hy : y[j]? = some b) : decide (D.cmp (x.drop j) (y.drop j) < 0) = if a = b then decide (D.cmp (x.drop (j + 1)) (y.drop (j + 1)) < 0) else decide (a < b) := by
  have h1 : x.drop j = a :: x.drop (j + 1) := by rw [List.drop_eq_getElem_cons (List.getElem?_eq_some_iff.1 hx).1, (List.getElem?_eq_some_iff.1 hx).2]
  have h2 : y.drop j = b :: y.drop (j + 1) := by rw [List.drop_eq_getElem_cons (List.getElem?_eq_some_iff.1 hy).1, (List.getElem?_eq_some_iff.1 hy).2]
  rw [h1, h2, D.cmp]
  by_cases e : a = b
  · rw [if_pos e, if_pos e]
  · rw [if_neg e, if_neg e]
    by_cases e2 : a < b
    · simp [e2]
    · simp [e2]
theorem cmp_end {x y : List Nat} (hx : x.length ≤ 10) (hy : y.length ≤ 10) : decide (D.cmp (x.drop 10) (y.drop 10) < 0) = false := by
  rw [List.drop_eq_nil_of_le hx, List.drop_eq_nil_of_le hy]
  rfl
end Go.Proofs.YtgbnaammphilhaaDoor
