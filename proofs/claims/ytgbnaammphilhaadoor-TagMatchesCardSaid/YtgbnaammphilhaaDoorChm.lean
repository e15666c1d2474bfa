/-
  A chain, link by link: mathematics.
-/
import Derived.Test.YtgbnaammphilhaaDoorCom
set_option linter.unusedVariables false
set_option linter.unusedSimpArgs false
namespace Go.Proofs.YtgbnaammphilhaaDoor

theorem D.chain_nodup (p : D.Pt) : (D.chain p).Nodup := by
  obtain ⟨l, s, r⟩ := p
  unfold D.chain D.c1 D.rt
  cases l <;> cases s <;> cases r <;> simp
theorem nodup_map {α β : Type} {f : α → β} : ∀ {l : List α}, (∀ a ∈ l, ∀ b ∈ l, f a = f b → a = b) → l.Nodup → (l.map f).Nodup
  | [], _, _ => List.nodup_nil
  | a :: l, h, hn => by
    obtain ⟨h1, h2⟩ := List.nodup_cons.1 hn
    rw [List.map_cons, List.nodup_cons]
    refine ⟨fun hm => ?_, nodup_map (fun x hx y hy => h x (List.mem_cons_of_mem _ hx) y (List.mem_cons_of_mem _ hy)) h2⟩
    obtain ⟨b, hb, e⟩ := List.mem_map.1 hm
    have := h b (List.mem_cons_of_mem _ hb) a (by simp) e
    subst this
    exact h1 hb
theorem D.cht_nodup (x : D.Tg) : (D.cht x).Nodup := by
  cases hp : D.pt x with
  | none => rw [D.cht_no hp]; exact List.nodup_nil
  | some p =>
    obtain ⟨hc, htb⟩ := D.pt_some hp
    subst htb
    rw [D.cht_tb hc]
    exact nodup_map (fun a ha b hb e => D.tb_inj (D.chain_can hc a ha) (D.chain_can hc b hb) e) (D.chain_nodup p)
theorem find_self {l : List D.Tg} (h : l.Nodup) {k : Nat} {y : D.Tg} (hy : l[k]? = some y) : D.find l (l.drop k) = some y := by
  have hk := (List.getElem?_eq_some_iff.1 hy).1
  have e : l.take k ++ l.drop k = l := List.take_append_drop k l
  have hn : (l.take k ++ l.drop k).Nodup := by rw [e]; exact h
  have hd : l.drop k = y :: l.drop (k + 1) := by rw [List.drop_eq_getElem_cons hk, (List.getElem?_eq_some_iff.1 hy).2]
  have := (List.nodup_append.1 hn).2.2
  unfold D.find
  have e2 : l.find? (fun x => decide (x ∈ l.drop k)) = (l.take k ++ l.drop k).find? (fun x => decide (x ∈ l.drop k)) := by rw [e]
  rw [e2, List.find?_append, List.find?_eq_none.2 (fun z hz => by simpa using fun hz2 => this z hz z hz2 rfl)]
  rw [hd]
  simp
/-- One link of a chain. -/
structure Lnk (x : D.Tg) (k : Nat) (y : D.Tg) : Prop where
  drop : (D.cht x).drop k = D.cht y
  right : D.right y = true
theorem lnk_any {x : D.Tg} (hx : D.right x = true) : ∀ (k : Nat) (y : D.Tg), (D.cht x)[k]? = some y → Lnk x k y
  | 0, y, hy => by
    obtain ⟨h1, _⟩ := cht_next hx
    rw [h1] at hy
    simp at hy
    subst hy
    exact ⟨rfl, hx⟩
  | k + 1, y, hy => by
    have hk := (List.getElem?_eq_some_iff.1 hy).1
    obtain ⟨z, hz⟩ : ∃ z, (D.cht x)[k]? = some z := ⟨_, List.getElem?_eq_getElem (by omega)⟩
    have L := lnk_any hx k z hz
    obtain ⟨h1, h2⟩ := cht_next L.right
    have hd : (D.cht x).drop (k + 1) = (if (D.tpar z).2 then D.cht (D.tpar z).1 else []) := by
      rw [← List.drop_drop, L.drop, h1]
      simp
    have hy2 : ((D.cht x).drop (k + 1))[0]? = some y := by rw [List.getElem?_drop]; exact hy
    cases h : (D.tpar z).2 with
    | false => rw [hd, h] at hy2; simp at hy2
    | true =>
      rw [h] at hd
      simp only [if_true] at hd
      have hr := h2 h
      obtain ⟨h3, _⟩ := cht_next hr
      rw [hd, h3] at hy2
      simp at hy2
      subst hy2
      exact ⟨hd, hr⟩
theorem lnk_has {x y : D.Tg} {k : Nat} (L : Lnk x k y) : (D.tpar y).2 = decide (k + 1 < (D.cht x).length) ∧ ((D.tpar y).2 = true → (D.cht x)[k + 1]? = some (D.tpar y).1) ∧ ((D.tpar y).2 = false → (D.tpar y).1 = D.zero) := by
  obtain ⟨h1, h2⟩ := cht_next L.right
  have hd : (D.cht x).drop (k + 1) = (if (D.tpar y).2 then D.cht (D.tpar y).1 else []) := by
    rw [← List.drop_drop, L.drop, h1]
    simp
  refine ⟨?_, ?_, ?_⟩
  · cases h : (D.tpar y).2 with
    | false =>
      rw [h] at hd
      simp at hd
      symm
      simp
      exact hd
    | true =>
      rw [h] at hd
      simp only [if_true] at hd
      obtain ⟨h3, _⟩ := cht_next (h2 h)
      symm
      simp
      have : 0 < ((D.cht x).drop (k + 1)).length := by rw [hd, h3]; simp
      rw [List.length_drop] at this
      omega
  · intro h
    rw [h] at hd
    simp only [if_true] at hd
    obtain ⟨h3, _⟩ := cht_next (h2 h)
    have : ((D.cht x).drop (k + 1))[0]? = some (D.tpar y).1 := by rw [hd, h3]; rfl
    rw [List.getElem?_drop] at this
    exact this
  · have hr := L.right
    unfold D.right at hr
    unfold D.tpar
    cases hp : D.pt y with
    | none => rw [hp] at hr; cases hr
    | some p =>
      simp only []
      cases hq : D.par p with
      | none => simp
      | some q => simp
theorem lnk_below {x y : D.Tg} {k : Nat} (hy : (D.cht x)[k]? = some y) : D.below x y = true := by
  unfold D.below
  rw [Option.isSome_iff_exists]
  cases h : D.find (D.cht x) [y] with
  | some z => exact ⟨z, rfl⟩
  | none =>
    have := List.find?_eq_none.1 h y (List.mem_of_getElem? hy)
    simp at this
theorem lnk_common {x y : D.Tg} {k : Nat} (L : Lnk x k y) (hy : (D.cht x)[k]? = some y) : D.common x y = y := by
  unfold D.common
  rw [← L.drop, find_self (D.cht_nodup x) hy]
  rfl
theorem right_can {y : D.Tg} (h : D.right y = true) : ∃ p, D.Can p ∧ D.tb p = y := by
  unfold D.right at h
  cases hp : D.pt y with
  | none => rw [hp] at h; cases h
  | some p => exact ⟨p, D.pt_some hp⟩
theorem txt_lt {p : D.Pt} (h : D.Can p) : ∀ b ∈ D.txt p, b < 256 := by
  rw [← D.spell_tb h]
  exact spell_lt _
/-- Its text is read as it was told. -/
theorem right_text {y : D.Tg} (h : D.right y = true) : (D.sb (D.tx y)).size ≤ 100 ∧ D.parse (D.ns (D.sb (D.tx y))) = D.pt y ∧ (D.pt y).isSome = true ∧ D.tb ((D.pt y).getD D.rt) = y := by
  obtain ⟨p, hc, rfl⟩ := right_can h
  rw [D.tx_tb hc, D.ns_sb (txt_lt hc), D.pt_tb hc, D.parse_txt hc]
  refine ⟨?_, rfl, rfl, rfl⟩
  rw [D.sb_len]
  obtain ⟨h1, h2, h3⟩ := D.can_len hc
  unfold D.txt
  split
  · decide
  · simp only [List.length_append]
    split <;> split <;> simp <;> omega
theorem cht_last {x : D.Tg} (h : D.right x = true) : (D.cht x)[(D.cht x).length - 1]? = some D.zero := by
  obtain ⟨p, hc, rfl⟩ := right_can h
  rw [D.cht_tb hc, List.length_map, List.getElem?_map, D.chain_last hc]
  rfl
theorem cht_first {x : D.Tg} (h : D.right x = true) : (D.cht x)[0]? = some x := by
  obtain ⟨h1, _⟩ := cht_next h
  rw [h1]; rfl
end Go.Proofs.YtgbnaammphilhaaDoor
