/-
  Versions as plain data: what is wrong with one, what is seen at a time, what some pins need, what trimming leaves. No program is spoken of.
-/
import Derived.Test.YtcnbdfobhablbaaRcb
set_option linter.unusedVariables false
set_option linter.unusedSimpArgs false
namespace Go.Proofs.Ytcnbdfobhablbaa
namespace D

/-- A version: its time, whether it is dead, its record. -/
structure Vn where
  a : Nat
  d : Bool
  r : Rc
deriving DecidableEq
structure Vn.wf (v : Vn) : Prop where
  a : v.a < 18446744073709551616
  r : v.r.wf
def dd (a : Nat) : Vn := ⟨a, true, zRc⟩
def zVn : Vn := ⟨0, false, zRc⟩
/-- The error of a version by itself. -/
def wgh (v : Vn) : Nat := if v.d = true then (if v.r = zRc then 0 else 3) else chk v.r
/-- The newest one's time. -/
def nwt (l : List Vn) : Nat := match l.getLast? with
  | none => 0
  | some v => v.a
/-- The error of one more. -/
def per (l : List Vn) (v : Vn) : Nat := if wgh v ≠ 0 then wgh v else if v.a ≤ nwt l then 21 else 0
/-- Some more, up to the first error: what there is then, how many, the error. -/
def puts : List Vn → List Vn → List Vn × Nat × Nat
  | l, [] => (l, 0, 0)
  | l, v :: vs => if per l v ≠ 0 then (l, 0, per l v) else let (x, n, e) := puts (l ++ [v]) vs; (x, n + 1, e)
/-- A chain. -/
structure Srt (l : List Vn) : Prop where
  up : l.Pairwise (fun u v => u.a < v.a)
  one : ∀ v ∈ l, 1 ≤ v.a
  ok : ∀ v ∈ l, wgh v = 0
theorem Srt.nil : Srt [] := ⟨List.Pairwise.nil, by simp, by simp⟩
theorem nwt_nil : nwt [] = 0 := rfl
theorem nwt_snoc (l : List Vn) (v : Vn) : nwt (l ++ [v]) = v.a := by simp [nwt]
theorem nwt_at {l : List Vn} {v : Vn} (h : l[l.length - 1]? = some v) : nwt l = v.a := by
  rw [nwt, List.getLast?_eq_getElem?, h]
theorem nwt_ge {l : List Vn} (h : Srt l) : ∀ v ∈ l, v.a ≤ nwt l := by
  intro v hv
  obtain ⟨i, hi, rfl⟩ := List.mem_iff_getElem.1 hv
  have h1 : l[l.length - 1]? = some (l[l.length - 1]'(by omega)) := List.getElem?_eq_getElem _
  rw [nwt_at h1]
  by_cases e : i = l.length - 1
  · subst e; exact Nat.le_refl _
  · exact Nat.le_of_lt (List.pairwise_iff_getElem.1 h.up i (l.length - 1) hi (by omega) (by omega))
theorem per_0 {l : List Vn} {v : Vn} (h : per l v = 0) : wgh v = 0 ∧ nwt l < v.a := by
  unfold per at h
  split at h
  · rename_i h1; exact absurd h h1
  · rename_i h1
    split at h
    · cases h
    · exact ⟨by simpa using h1, by omega⟩
theorem Srt.snoc {l : List Vn} {v : Vn} (h : Srt l) (hp : per l v = 0) : Srt (l ++ [v]) := by
  obtain ⟨h1, h2⟩ := per_0 hp
  refine ⟨List.pairwise_append.2 ⟨h.up, List.pairwise_singleton _ _, fun a ha b hb => ?_⟩, fun u hu => ?_, fun u hu => ?_⟩
  · simp at hb; subst hb
    have := nwt_ge h a ha
    omega
  · rcases List.mem_append.1 hu with hu | hu
    · exact h.one u hu
    · simp at hu; subst hu; omega
  · rcases List.mem_append.1 hu with hu | hu
    · exact h.ok u hu
    · simp at hu; subst hu; exact h1
theorem puts_cons_ok {l vs : List Vn} {v : Vn} (h : per l v = 0) : puts l (v :: vs) = ((puts (l ++ [v]) vs).1, (puts (l ++ [v]) vs).2.1 + 1, (puts (l ++ [v]) vs).2.2) := by
  rw [puts, if_neg (by simp [h])]
theorem puts_cons_bad {l vs : List Vn} {v : Vn} (h : per l v ≠ 0) : puts l (v :: vs) = (l, 0, per l v) := by
  rw [puts, if_pos h]
/-- How many are up to a time. -/
def cnt (l : List Vn) (t : Nat) : Nat := l.countP (fun v => decide (v.a ≤ t))
theorem cnt_le (l : List Vn) (t : Nat) : cnt l t ≤ l.length := List.countP_le_length
theorem cnt_is {l : List Vn} {t i : Nat} (hi : i ≤ l.length) (h1 : ∀ k v, l[k]? = some v → k < i → v.a ≤ t) (h2 : ∀ k v, l[k]? = some v → i ≤ k → t < v.a) : cnt l t = i := by
  rw [cnt, ← List.take_append_drop i l, List.countP_append]
  have e1 : (l.take i).countP (fun v => decide (v.a ≤ t)) = (l.take i).length := by
    rw [List.countP_eq_length]
    intro v hv
    obtain ⟨k, hk, rfl⟩ := List.mem_iff_getElem.1 hv
    have hk2 : k < i := by simp at hk; omega
    have := h1 k _ (List.getElem?_eq_getElem (by simp at hk; omega)) hk2
    simpa using this
  have e2 : (l.drop i).countP (fun v => decide (v.a ≤ t)) = 0 := by
    rw [List.countP_eq_zero]
    intro v hv
    obtain ⟨k, hk, rfl⟩ := List.mem_iff_getElem.1 hv
    have := h2 (i + k) _ (List.getElem?_eq_getElem (by simp at hk; omega)) (by omega)
    simp
    omega
  rw [e1, e2, List.length_take]
  omega
theorem Srt.lt {l : List Vn} (h : Srt l) {i j : Nat} {u v : Vn} (hu : l[i]? = some u) (hv : l[j]? = some v) (hij : i < j) : u.a < v.a := by
  obtain ⟨h1, rfl⟩ := List.getElem?_eq_some_iff.1 hu
  obtain ⟨h2, rfl⟩ := List.getElem?_eq_some_iff.1 hv
  exact List.pairwise_iff_getElem.1 h.up i j h1 h2 hij
theorem Srt.cnt_lt {l : List Vn} (h : Srt l) {t i : Nat} {v : Vn} (hv : l[i]? = some v) : v.a ≤ t ↔ i < cnt l t := by
  have key : ∃ j, j ≤ l.length ∧ (∀ k v, l[k]? = some v → k < j → v.a ≤ t) ∧ (∀ k v, l[k]? = some v → j ≤ k → t < v.a) := by
    clear hv
    have : ∀ n, n ≤ l.length → ∃ j, j ≤ n ∧ (∀ k v, l[k]? = some v → k < j → v.a ≤ t) ∧ (∀ k v, l[k]? = some v → j ≤ k → k < n → t < v.a) := by
      intro n
      induction n with
      | zero => intro _; exact ⟨0, Nat.le_refl _, fun k v _ h => absurd h (by omega), fun k v _ _ h => absurd h (by omega)⟩
      | succ n ih =>
        intro hn
        obtain ⟨j, hj, h1, h2⟩ := ih (by omega)
        have hx : l[n]? = some (l[n]'(by omega)) := List.getElem?_eq_getElem _
        by_cases ht : (l[n]'(by omega)).a ≤ t
        · refine ⟨n + 1, Nat.le_refl _, fun k v hk hlt => ?_, fun k v hk h3 h4 => absurd h3 (by omega)⟩
          by_cases e : k = n
          · subst e; rw [hx] at hk; injection hk with hk; subst hk; exact ht
          · have := h.lt hk hx (by omega); omega
        · refine ⟨j, by omega, h1, fun k v hk h3 h4 => ?_⟩
          by_cases e : k = n
          · subst e; rw [hx] at hk; injection hk with hk; subst hk; omega
          · exact h2 k v hk h3 (by omega)
    obtain ⟨j, hj, h1, h2⟩ := this l.length (Nat.le_refl _)
    exact ⟨j, hj, h1, fun k v hk h3 => h2 k v hk h3 (List.getElem?_eq_some_iff.1 hk).1⟩
  obtain ⟨j, hj, h1, h2⟩ := key
  rw [cnt_is hj h1 h2]
  constructor
  · intro hle
    rcases Nat.lt_or_ge i j with h | h
    · exact h
    · have := h2 i v hv h; omega
  · exact h1 i v hv
/-- What is seen at a time. -/
def seen (l : List Vn) (t : Nat) : Vn := if cnt l t = 0 then dd 0 else (l[cnt l t - 1]?).getD (dd 0)
theorem seen_0 {l : List Vn} {t : Nat} (h : cnt l t = 0) : seen l t = dd 0 := if_pos h
theorem seen_s {l : List Vn} {t : Nat} {v : Vn} (h : cnt l t ≠ 0) (hv : l[cnt l t - 1]? = some v) : seen l t = v := by
  rw [seen, if_neg h, hv]; rfl
theorem seen_mem {l : List Vn} {t : Nat} (h : cnt l t ≠ 0) : ∃ v, l[cnt l t - 1]? = some v ∧ seen l t = v ∧ v ∈ l := by
  have := cnt_le l t
  have hx : l[cnt l t - 1]? = some (l[cnt l t - 1]'(by omega)) := List.getElem?_eq_getElem _
  exact ⟨_, hx, seen_s h hx, List.getElem_mem _⟩
theorem wgh_dd (a : Nat) : wgh (dd a) = 0 := by simp [wgh, dd]
theorem seen_ok {l : List Vn} (h : Srt l) (t : Nat) : wgh (seen l t) = 0 := by
  by_cases h0 : cnt l t = 0
  · rw [seen_0 h0]; exact wgh_dd _
  · obtain ⟨v, _, e, hm⟩ := seen_mem h0
    rw [e]; exact h.ok v hm
theorem dead_rec {v : Vn} (h : wgh v = 0) (hd : v.d = true) : v.r = zRc := by
  unfold wgh at h
  rw [if_pos hd] at h
  split at h
  · assumption
  · cases h
/-- At the greatest time the newest one is seen. -/
theorem cnt_all {l : List Vn} {t : Nat} (h : ∀ v ∈ l, v.a ≤ t) : cnt l t = l.length := by
  rw [cnt, List.countP_eq_length]
  intro v hv
  simpa using h v hv
theorem seen_late {l : List Vn} (h : Srt l) {t : Nat} (ht : nwt l ≤ t) : seen l t = (l.getLast?).getD (dd 0) := by
  have hc : cnt l t = l.length := cnt_all fun v hv => Nat.le_trans (nwt_ge h v hv) ht
  by_cases h0 : l.length = 0
  · have : l = [] := List.eq_nil_of_length_eq_zero h0
    subst this; rfl
  · rw [seen, if_neg (by omega), hc, List.getLast?_eq_getElem?]
theorem nwt_seen {l : List Vn} (h : Srt l) {t : Nat} (ht : nwt l ≤ t) : (seen l t).a = nwt l := by
  rw [seen_late h ht, nwt]
  cases l.getLast? <;> rfl
/-- Is a pin at a time or later, and below another one? -/
def pin (ps : List Nat) (lo hi : Nat) : Bool := ps.any fun p => decide (lo ≤ p) && decide (p < hi)
theorem pin_iff {ps : List Nat} {lo hi : Nat} : pin ps lo hi = true ↔ ∃ p ∈ ps, lo ≤ p ∧ p < hi := by
  simp [pin]
theorem pin_up {ps : List Nat} {lo hi lo' hi' : Nat} (h : pin ps lo hi = true) (h1 : lo' ≤ lo) (h2 : hi ≤ hi') : pin ps lo' hi' = true := by
  obtain ⟨p, hp, h3, h4⟩ := pin_iff.1 h
  exact pin_iff.2 ⟨p, hp, by omega, by omega⟩
/-- Those that are needed. -/
def ned (ps : List Nat) : List Vn → List Vn
  | [] => []
  | [v] => [v]
  | v :: w :: l => if pin ps v.a w.a = true then v :: ned ps (w :: l) else ned ps (w :: l)
/-- Is one left, though it may be the first, and dead? -/
def kep (ps : List Nat) (v : Vn) : Bool := !v.d || pin ps 0 v.a
def trm (ps : List Nat) (l : List Vn) : List Vn := (ned ps l).filter (kep ps)
theorem ned_sub (ps : List Nat) : ∀ l : List Vn, (ned ps l).Sublist l
  | [] => List.Sublist.refl _
  | [v] => List.Sublist.refl _
  | v :: w :: l => by
    rw [ned]
    split
    · exact (ned_sub ps (w :: l)).cons_cons v
    · exact (ned_sub ps (w :: l)).cons v
theorem trm_sub (ps : List Nat) (l : List Vn) : (trm ps l).Sublist l := List.filter_sublist.trans (ned_sub ps l)
theorem Srt.sub {l k : List Vn} (h : Srt l) (hs : k.Sublist l) : Srt k := ⟨h.up.sublist hs, fun v hv => h.one v (hs.subset hv), fun v hv => h.ok v (hs.subset hv)⟩
theorem Srt.trm {l : List Vn} (h : Srt l) (ps : List Nat) : Srt (trm ps l) := h.sub (trm_sub ps l)
theorem ned_ne (ps : List Nat) : ∀ {l : List Vn}, l ≠ [] → ned ps l ≠ []
  | [], h => absurd rfl h
  | [v], _ => by simp [ned]
  | v :: w :: l, _ => by
    rw [ned]
    split
    · simp
    · exact ned_ne ps (by simp)
theorem ned_last (ps : List Nat) : ∀ l : List Vn, (ned ps l).getLast? = l.getLast?
  | [] => rfl
  | [v] => rfl
  | v :: w :: l => by
    have ih := ned_last ps (w :: l)
    rw [ned]
    split
    · rw [List.getLast?_cons_cons, ← ih]
      have hne := ned_ne ps (l := w :: l) (by simp)
      cases hn : ned ps (w :: l) with
      | nil => exact absurd hn hne
      | cons a b => rw [List.getLast?_cons_cons]
    · rw [List.getLast?_cons_cons, ih]
/-- Behind the first one each has a pin below. -/
theorem ned_pin (ps : List Nat) : ∀ {l : List Vn}, l.Pairwise (fun u v => u.a < v.a) → ∀ u rest, ned ps l = u :: rest → ∀ x ∈ rest, pin ps 0 x.a = true
  | [], _, u, rest, h, x, hx => by simp [ned] at h
  | [v], _, u, rest, h, x, hx => by
    simp only [ned, List.cons.injEq] at h
    rw [← h.2] at hx; cases hx
  | v :: w :: l, hp, u, rest, h, x, hx => by
    rw [ned] at h
    have hp2 := (List.pairwise_cons.1 hp).2
    split at h
    · rename_i hpin
      injection h with _ h2
      subst h2
      have hx2 := (ned_sub ps (w :: l)).subset hx
      have : w.a ≤ x.a := by
        rcases List.mem_cons.1 hx2 with rfl | hx3
        · exact Nat.le_refl _
        · exact Nat.le_of_lt ((List.pairwise_cons.1 hp2).1 x hx3)
      exact pin_up hpin (Nat.zero_le _) this
    · exact ned_pin ps hp2 u rest h x hx
/-- What goes stands ahead. -/
theorem trm_drop {ps : List Nat} {l : List Vn} (h : Srt l) : trm ps l = (ned ps l).dropWhile (fun v => v.d && !pin ps 0 v.a) := by
  unfold trm
  cases hn : ned ps l with
  | nil => rfl
  | cons u rest =>
    have hr := ned_pin ps h.up u rest hn
    have hf : rest.filter (kep ps) = rest := List.filter_eq_self.2 fun x hx => by simp [kep, hr x hx]
    have hk : (u.d && !pin ps 0 u.a) = !kep ps u := by cases h1 : u.d <;> cases h2 : pin ps 0 u.a <;> simp [kep, h1, h2]
    rw [List.filter_cons, List.dropWhile_cons, hk]
    cases hu : kep ps u with
    | true => simp [hf]
    | false =>
      simp [hf]
      cases rest with
      | nil => rfl
      | cons w r => simp [List.dropWhile_cons, hr w (List.mem_cons_self ..)]
end D
end Go.Proofs.Ytcnbdfobhablbaa
