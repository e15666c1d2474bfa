/-
  What trimming keeps, and what goes: mathematics alone.
-/
import Derived.Test.YtcnbdfobhablbaaChm
import Derived.Test.YtcnbdfobhablbaaChb
set_option linter.unusedVariables false
set_option linter.unusedSimpArgs false
namespace Go.Proofs.Ytcnbdfobhablbaa
namespace D

theorem Srt.tl {v : Vn} {l : List Vn} (h : Srt (v :: l)) : Srt l := h.sub (List.sublist_cons_self v l)
theorem Srt.hd {v : Vn} {l : List Vn} (h : Srt (v :: l)) : ∀ w ∈ l, v.a < w.a := fun w hw => (List.pairwise_cons.1 h.up).1 w hw
theorem cnt_zero {l : List Vn} {t : Nat} (h : ∀ w ∈ l, t < w.a) : cnt l t = 0 := by
  rw [cnt, List.countP_eq_zero]
  intro w hw
  have := h w hw
  simp
  omega
theorem seen_lo {v : Vn} {l : List Vn} (h : Srt (v :: l)) {t : Nat} (ht : t < v.a) : seen (v :: l) t = dd 0 := by
  refine seen_0 (cnt_zero fun w hw => ?_)
  rcases List.mem_cons.1 hw with rfl | hw
  · exact ht
  · have := h.hd w hw; omega
theorem seen_hi {v : Vn} {l : List Vn} {t : Nat} (ht : v.a ≤ t) : seen (v :: l) t = if cnt l t = 0 then v else seen l t := by
  have hc : cnt (v :: l) t = cnt l t + 1 := by
    rw [cnt, cnt, List.countP_cons_of_pos (by simpa using ht)]
  rw [seen, hc, if_neg (by omega)]
  by_cases h0 : cnt l t = 0
  · rw [if_pos h0, h0]; rfl
  · rw [if_neg h0, seen, if_neg h0]
    obtain ⟨k, hk⟩ : ∃ k, cnt l t = k + 1 := ⟨cnt l t - 1, by omega⟩
    rw [hk]; rfl
theorem seen_a0 {l : List Vn} (h : Srt l) {t : Nat} : cnt l t = 0 ↔ (seen l t).a = 0 := by
  constructor
  · intro h0; rw [seen_0 h0]; rfl
  · intro h0
    by_cases hc : cnt l t = 0
    · exact hc
    · obtain ⟨v, _, e, hm⟩ := seen_mem hc
      have := h.one v hm
      rw [e] at h0
      omega
theorem Srt.ned {l : List Vn} (h : Srt l) (ps : List Nat) : Srt (ned ps l) := h.sub (ned_sub ps l)
theorem seen_ned {ps : List Nat} {p : Nat} (hp : p ∈ ps) : ∀ {l : List Vn}, Srt l → seen (ned ps l) p = seen l p
  | [], _ => rfl
  | [v], _ => rfl
  | v :: w :: l, h => by
    have ih := seen_ned hp h.tl
    have hvw := h.hd w (List.mem_cons_self ..)
    rw [ned]
    by_cases hpin : pin ps v.a w.a = true
    · rw [if_pos hpin]
      rcases Nat.lt_or_ge p v.a with hlt | hge
      · rw [seen_lo h hlt]
        have h2 : Srt (v :: ned ps (w :: l)) := h.sub ((ned_sub ps (w :: l)).cons_cons v)
        rw [seen_lo h2 hlt]
      · rw [seen_hi hge, seen_hi hge, ih]
        have e1 := seen_a0 (t := p) (h.tl.ned ps)
        have e2 := seen_a0 (t := p) h.tl
        rw [ih, ← e2] at e1
        by_cases h0 : cnt (w :: l) p = 0
        · rw [if_pos h0, if_pos (e1.2 h0)]
        · rw [if_neg h0, if_neg (fun h1 => h0 (e1.1 h1))]
    · rw [if_neg hpin, ih]
      rcases Nat.lt_or_ge p v.a with hlt | hge
      · rw [seen_lo h hlt, seen_lo h.tl (by omega)]
      · have hw : w.a ≤ p := by
          rcases Nat.lt_or_ge p w.a with h1 | h1
          · exact absurd (pin_iff.2 ⟨p, hp, hge, h1⟩) hpin
          · exact h1
        rw [seen_hi hge, if_neg]
        rw [seen_a0 h.tl]
        rw [seen_hi hw]
        split
        · have := h.one w (by simp); omega
        · rename_i h0
          rw [seen_a0 h.tl.tl] at h0
          exact h0
/-- What trimming leaves: those that are needed, or these without the first one, a dead one that no pin is below. -/
theorem trm_is {l : List Vn} (h : Srt l) (ps : List Nat) : trm ps l = ned ps l ∨ ∃ u rest, ned ps l = u :: rest ∧ trm ps l = rest ∧ u.d = true ∧ u.r = zRc ∧ u ∈ l ∧ kep ps u = false ∧ ∀ p ∈ ps, u.a ≤ p := by
  unfold trm
  cases hn : ned ps l with
  | nil => exact .inl rfl
  | cons u rest =>
    have hr := ned_pin ps h.up u rest hn
    have hf : rest.filter (kep ps) = rest := List.filter_eq_self.2 fun x hx => by simp [kep, hr x hx]
    have hu : u ∈ l := (ned_sub ps l).subset (by rw [hn]; exact List.mem_cons_self ..)
    rw [List.filter_cons, hf]
    cases hk : kep ps u with
    | true => exact .inl rfl
    | false =>
      have hk2 := hk
      simp [kep] at hk2
      refine .inr ⟨u, rest, rfl, rfl, hk2.1, dead_rec (h.ok u hu) hk2.1, hu, hk, fun p hp => ?_⟩
      rcases Nat.lt_or_ge p u.a with h1 | h1
      · have := pin_iff.2 ⟨p, hp, Nat.zero_le _, h1⟩
        rw [hk2.2] at this; cases this
      · exact h1
/-- The same is seen at a pin. -/
theorem trm_seen {l : List Vn} (h : Srt l) {ps : List Nat} {p : Nat} (hp : p ∈ ps) : (seen (trm ps l) p).d = (seen l p).d ∧ (seen (trm ps l) p).r = (seen l p).r := by
  rw [← seen_ned hp h]
  rcases trm_is h ps with e | ⟨u, rest, e, e2, hd, hr, _, _, hq⟩
  · rw [e]; exact ⟨rfl, rfl⟩
  · rw [e, e2, seen_hi (hq p hp)]
    by_cases h0 : cnt rest p = 0
    · rw [if_pos h0, seen_0 h0]; exact ⟨hd.symm, hr.symm⟩
    · rw [if_neg h0]; exact ⟨rfl, rfl⟩
theorem nwt_ned (ps : List Nat) (l : List Vn) : nwt (ned ps l) = nwt l := by rw [nwt, nwt, ned_last]
theorem liv_ned (ps : List Nat) (l : List Vn) : liv (ned ps l) = liv l := by rw [liv, liv, ned_last]
theorem trm_nwt {l : List Vn} (h : Srt l) (ps : List Nat) : (trm ps l = [] ∧ ∀ p ∈ ps, nwt l ≤ p) ∨ nwt (trm ps l) = nwt l := by
  rcases trm_is h ps with e | ⟨u, rest, e, e2, hd, hr, _, _, hq⟩
  · right; rw [e, nwt_ned]
  · rw [e2, ← nwt_ned ps l, e]
    cases rest with
    | nil => left; exact ⟨rfl, fun p hp => hq p hp⟩
    | cons x r => right; simp [nwt, List.getLast?_cons_cons]
/-- Whether the newest time is above a pin stays. -/
theorem trm_above {l : List Vn} (h : Srt l) {ps : List Nat} {p : Nat} (hp : p ∈ ps) : p < nwt (trm ps l) ↔ p < nwt l := by
  rcases trm_nwt h ps with ⟨e, hq⟩ | e
  · rw [e, nwt_nil]; have := hq p hp; omega
  · rw [e]
theorem trm_liv {l : List Vn} (h : Srt l) (ps : List Nat) : liv (trm ps l) = liv l := by
  rcases trm_is h ps with e | ⟨u, rest, e, e2, hd, hr, _, _, hq⟩
  · rw [e, liv_ned]
  · rw [e2, ← liv_ned ps l, e]
    cases rest with
    | nil => simp [liv, hd]
    | cons x r => simp [liv, List.getLast?_cons_cons]
theorem nwt_trm_le {l : List Vn} (h : Srt l) (ps : List Nat) : nwt (trm ps l) ≤ nwt l := by
  rcases trm_nwt h ps with ⟨e, hq⟩ | e
  · rw [e, nwt_nil]; exact Nat.zero_le _
  · omega
/-- From the newest time on the same is seen. -/
theorem trm_late {l : List Vn} (h : Srt l) (ps : List Nat) {t : Nat} (ht : nwt l ≤ t) : (seen (trm ps l) t).d = (seen l t).d ∧ (seen (trm ps l) t).r = (seen l t).r := by
  rw [seen_late (h.trm ps) (Nat.le_trans (nwt_trm_le h ps) ht), seen_late h ht]
  rcases trm_is h ps with e | ⟨u, rest, e, e2, hd, hr, _, _, hq⟩
  · rw [e, ned_last]; exact ⟨rfl, rfl⟩
  · rw [e2, ← ned_last ps l, e]
    cases rest with
    | nil => exact ⟨hd.symm, hr.symm⟩
    | cons x r => rw [List.getLast?_cons_cons]; exact ⟨rfl, rfl⟩
/-- Trimmed again nothing goes. -/
theorem ned_ned (ps : List Nat) : ∀ {l : List Vn}, l.Pairwise (fun u v => u.a < v.a) → ned ps (ned ps l) = ned ps l
  | [], _ => rfl
  | [v], _ => rfl
  | v :: w :: l, hp => by
    have hp2 := (List.pairwise_cons.1 hp).2
    have ih := ned_ned ps hp2
    rw [ned]
    split
    · rename_i hpin
      cases hm : ned ps (w :: l) with
      | nil => rfl
      | cons x m =>
        rw [hm] at ih
        have hx : x ∈ w :: l := (ned_sub ps (w :: l)).subset (by rw [hm]; exact List.mem_cons_self ..)
        have hwx : w.a ≤ x.a := by
          rcases List.mem_cons.1 hx with rfl | h3
          · exact Nat.le_refl _
          · exact Nat.le_of_lt ((List.pairwise_cons.1 hp2).1 x h3)
        rw [ned, if_pos (pin_up hpin (Nat.le_refl _) hwx), ih]
    · exact ih
theorem trm_trm {l : List Vn} (h : Srt l) (ps : List Nat) : trm ps (trm ps l) = trm ps l := by
  have hn := ned_ned ps h.up
  rcases trm_is h ps with e | ⟨u, rest, e, e2, _, _, _, hk, _⟩
  · rw [e, trm, hn]; exact e
  · have hf : rest.filter (kep ps) = rest := by
      have h1 := e2
      rw [trm, e, List.filter_cons, hk] at h1
      simpa using h1
    rw [e2, trm]
    rw [e] at hn
    cases rest with
    | nil => rfl
    | cons x r =>
      rw [ned] at hn
      split at hn
      · injection hn with _ hn
        rw [hn, hf]
      · have := (ned_sub ps (x :: r)).length_le
        rw [hn] at this
        simp only [List.length_cons] at this
        omega
theorem ned_many {ps qs : List Nat} (hq : ∀ p, p ∈ qs ↔ p ∈ ps) : ∀ {v : Vn} {l : List Vn}, (v :: l).Pairwise (fun u v => u.a < v.a) → (ned ps (v :: l)).length ≤ (qs.countP fun p => decide (v.a ≤ p)) + 1
  | v, [], _ => by simp [ned]
  | v, w :: l, hs => by
    have ih := ned_many hq (v := w) (l := l) (List.pairwise_cons.1 hs).2
    have hvw := (List.pairwise_cons.1 hs).1 w (List.mem_cons_self ..)
    have mono : ∀ ks : List Nat, (ks.countP fun p => decide (w.a ≤ p)) ≤ ks.countP fun p => decide (v.a ≤ p) := fun ks => List.countP_mono_left fun x _ hx => by simp at hx ⊢; omega
    rw [ned]
    split
    · rename_i hpin
      obtain ⟨p, hp, h1, h2⟩ := pin_iff.1 hpin
      have : (qs.countP fun p => decide (w.a ≤ p)) + 1 ≤ qs.countP fun p => decide (v.a ≤ p) := by
        have h3 := (hq p).2 hp
        clear hq ih hpin hp
        induction qs with
        | nil => cases h3
        | cons q qs ih =>
          have := mono qs
          rw [List.countP_cons, List.countP_cons]
          rcases List.mem_cons.1 h3 with rfl | h3
          · rw [if_neg (by simp; omega), if_pos (by simp; omega)]
            omega
          · have := ih h3
            by_cases hw : w.a ≤ q
            · rw [if_pos (by simpa using hw), if_pos (by simp; omega)]; omega
            · rw [if_neg (by simpa using hw)]; omega
      simp only [List.length_cons]
      omega
    · have := mono qs
      omega
/-- At most one is left for each unlike pin, and one more. -/
theorem trm_many {ps qs : List Nat} (hq : ∀ p, p ∈ qs ↔ p ∈ ps) {l : List Vn} (h : Srt l) : (trm ps l).length ≤ qs.length + 1 := by
  have h1 : (trm ps l).length ≤ (ned ps l).length := List.length_filter_le _ _
  cases l with
  | nil => simp [trm, ned]
  | cons v l =>
    have := ned_many hq h.up
    have h3 : (qs.countP fun p => decide (v.a ≤ p)) ≤ qs.length := List.countP_le_length
    omega
theorem ned_nil : ∀ l : List Vn, (ned [] l).length = min l.length 1
  | [] => rfl
  | [v] => rfl
  | v :: w :: l => by
    rw [ned, if_neg (by simp [pin]), ned_nil (w :: l)]
    simp only [List.length_cons]
    omega
/-- Without pins one at most is left, none of a dead key. -/
theorem trm_none (l : List Vn) : (trm [] l).length = if liv l = true then 1 else 0 := by
  have h1 := ned_nil l
  have h2 := ned_last [] l
  rw [trm, liv, ← h2]
  cases hn : ned [] l with
  | nil => rfl
  | cons u r =>
    rw [hn] at h1
    have hr : r = [] := List.eq_nil_of_length_eq_zero (by simp only [List.length_cons] at h1; omega)
    subst hr
    cases hd : u.d <;> simp [kep, pin, hd]
end D
end Go.Proofs.Ytcnbdfobhablbaa
