/-
  What is printed is read as it was. No program is spoken of.
  What is printed is read as it was: messages, whole texts. No program is spoken of.
  The document's small functions on texts: bytes, words, blanks.
-/
import Derived.Test.YtohhfcfnclafdaaGreatDoorG03
import Derived.Test.YtohhfcfnclafdaaGreatDoorGow
import Derived.IntWalk
import Derived.BigQuiet
import Derived.Deep.QuietTactic
import Derived.Deep.DrawnRows
import Derived.Deep.CutRange
set_option linter.unusedVariables false
set_option linter.unusedSimpArgs false
namespace Go.Proofs.YtohhfcfnclafdaaGreatDoor
namespace D
section
variable {l : List Nat} {i : Nat}
theorem at_get {c : Nat} {r : List Nat} (h : l.drop i = c :: r) : l[i]? = some c := by
  have : (l.drop i)[0]? = some c := by rw [h]; rfl
  rwa [List.getElem?_drop, Nat.add_zero] at this
theorem at_end (h : l.drop i = []) : l[i]? = none := by
  have : (l.drop i)[0]? = none := by rw [h]; rfl
  rwa [List.getElem?_drop, Nat.add_zero] at this
theorem at_next {a b : List Nat} (h : l.drop i = a ++ b) : l.drop (i + a.length) = b := by
  rw [← List.drop_drop, h, List.drop_left]
theorem at_more {c : Nat} {r : List Nat} (h : l.drop i = c :: r) : l.drop (i + 1) = r := at_next (a := [c]) h
theorem sub_at {a b : List Nat} (h : l.drop i = a ++ b) : sub l i (i + a.length) = a := by
  unfold sub
  rw [List.drop_take, Nat.add_sub_cancel_left, h, List.take_left]
theorem far_is {p : Nat → Bool} {a b : List Nat} (h : l.drop i = a ++ b) (ha : ∀ c ∈ a, p c = true) (hb : ∀ c, b.head? = some c → p c = false) : far p l i = i + a.length := by
  unfold far
  rw [h, List.takeWhile_append_of_pos ha]
  have : List.takeWhile p b = [] := by
    cases b with
    | nil => rfl
    | cons c r => rw [List.takeWhile_cons_of_neg (by rw [hb c rfl]; simp)]
  rw [this, List.append_nil]
end
theorem wdB_may (c : Nat) : wdB c = Nm.D.mayB c := by
  unfold wdB Nm.D.mayB Nm.D.letB
  by_cases h1 : 97 ≤ c <;> by_cases h2 : c ≤ 122 <;> by_cases h3 : 48 ≤ c <;> by_cases h4 : c ≤ 57 <;> by_cases h5 : c = 45 <;> by_cases h6 : c = 95 <;> by_cases h7 : c = 46 <;> simp [*]
theorem isB_wd {t : List Nat} (h : Nm.D.isB t = true) : t ≠ [] ∧ ∀ c ∈ t, wdB c = true := by
  obtain ⟨h1, _, _, h4⟩ := Nm.D.isB_iff.1 h
  exact ⟨fun e => by rw [e] at h1; simp at h1, fun c hc => by rw [wdB_may]; exact h4 c hc⟩
def prC0 : List (List Nat) → List (List Nd) → List Nat
  | w :: ws, l :: ks => w ++ 123 :: (prL l ++ 125 :: prC ws ks)
  | [], _ => []
  | _, [] => []
theorem prC_cons {w : List Nat} {ws : List (List Nat)} {q : List Nd} {ks : List (List Nd)} : prC (w :: ws) (q :: ks) = 32 :: prC0 (w :: ws) (q :: ks) := by rw [prC, prC0]
theorem cas_back {l : List Nat} {k : Nat} {n : List Nat} {m : Nat → Ot} : ∀ (ws : List (List Nat)) (ks : List (List Nd)) (i f : Nat) (wa : List (List Nat)) (ka : List (List Nd)) (suf : List Nat),
    ws.length = ks.length → okWd k wa ws → othT ∈ wa ++ ws → ws.length < f → (∀ q ∈ ks, ∀ i b, l.drop i = prL q ++ 125 :: b → m i = ⟨q, i + (prL q).length, 0⟩) →
    l.drop i = prC0 ws ks ++ 125 :: suf → cas l k n m f i wa ka = ⟨[.mk k [] n (wa ++ ws) (ka ++ ks)], i + (prC0 ws ks).length + 1, 0⟩
  | ws, ks, i, 0, wa, ka, suf, _, _, _, hf, _, _ => by omega
  | [], [], i, f + 1, wa, ka, suf, _, _, ho, _, _, h => by
    rw [prC0, List.nil_append] at h
    have hf : far wdB l i = i := far_is (a := []) h (by simp) (by intro c hc; simp at hc; subst hc; rfl)
    rw [cas, hf, if_pos rfl, if_neg (by rw [at_get h]; simp), if_neg (by simpa using ho)]
    simp [prC0]
  | [], q :: ks, _, _, _, _, _, hl, _, _, _, _, _ => by simp at hl
  | w :: ws, [], _, _, _, _, _, hl, _, _, _, _, _ => by simp at hl
  | w :: ws, q :: ks, i, f + 1, wa, ka, suf, hl, hw, ho, hf, hm, h => by
    obtain ⟨w1, w2, w3, w4⟩ := hw
    rw [prC0, List.append_assoc] at h
    simp only [List.cons_append, List.append_assoc] at h
    have hfw : far wdB l i = i + w.length := far_is h w2 (by intro c hc; simp at hc; subst hc; rfl)
    have hs : sub l i (i + w.length) = w := sub_at h
    have h1 := at_next h
    have g1 := at_get h1
    have h2 := at_more h1
    have hmq := hm q (by simp) _ _ h2
    have h3 := at_next h2
    have g3 := at_get h3
    have h4 := at_more h3
    have hw0 : 0 < w.length := List.length_pos_iff.2 w1
    have hsk : ∃ j, far (· == 32) l (i + w.length + 1 + (prL q).length + 1) = j ∧ l.drop j = prC0 ws ks ++ 125 :: suf ∧ j + (prC0 ws ks).length = i + w.length + 1 + (prL q).length + 1 + (prC ws ks).length := by
      cases ws with
      | nil =>
        have hks : ks = [] := by simpa using hl.symm
        subst hks
        refine ⟨_, far_is (a := []) h4 (by simp) (by intro c hc; simp [prC] at hc; subst hc; rfl), ?_, ?_⟩
        · simpa [prC, prC0] using h4
        · simp [prC, prC0]
      | cons v ws =>
        cases ks with
        | nil => simp at hl
        | cons r ks =>
          obtain ⟨v1, v2, _⟩ := w4
          rw [prC_cons] at h4 ⊢
          refine ⟨_, far_is (a := [32]) (by simpa using h4) (by simp) ?_, ?_, ?_⟩
          · intro c hc
            cases v with
            | nil => exact absurd rfl v1
            | cons a v =>
              simp [prC0] at hc
              subst hc
              have := v2 a (by simp)
              cases hq : (a == 32)
              · rfl
              · have : a = 32 := by simpa using hq
                subst this
                revert v2; simp [wdB]
          · exact at_more (by simpa using h4)
          · simp; omega
    obtain ⟨j, ej, hj, ejl⟩ := hsk
    have ih := cas_back (n := n) ws ks j f (wa ++ [w]) (ka ++ [q]) suf (by simpa using hl) w4 (by simpa using ho) (by simp at hf; omega) (fun q hq => hm q (by simp [hq])) hj
    rw [cas, hfw, if_neg (by omega), hs, if_neg (by simpa using w3), if_neg (by rw [g1]; simp), hmq, if_neg (by simp), if_neg (by rw [g3]; simp)]
    simp only
    rw [ej, ih, show prC0 (w :: ws) (q :: ks) = w ++ 123 :: (prL q ++ 125 :: prC ws ks) from rfl]
    simp
    omega
theorem prC_len : ∀ (ws : List (List Nat)) (ks : List (List Nd)), ws.length = ks.length → ws.length ≤ (prC ws ks).length
  | [], _, _ => by simp
  | w :: ws, [], h => by simp at h
  | w :: ws, q :: ks, h => by
    have := prC_len ws ks (by simpa using h)
    rw [prC]
    simp
    omega
theorem not_wd {c : Nat} (h : wdB c = true) : c ≠ 32 ∧ c ≠ 44 ∧ c ≠ 123 ∧ c ≠ 125 := by
  refine ⟨?_, ?_, ?_, ?_⟩ <;> (intro e; subst e; simp [wdB] at h)
/-- The text of a place, behind its {. -/
def bdN (x : Nd) : List Nat := (prN x).tail
theorem plc_back {l : List Nat} {m : Bool → Nat → Ot} {deep w : Bool} {P : Bool → List Nd → Prop} {x : Nd} (hx : okNd (!deep) P w x) (h5 : x.k ≠ 5) (h0 : x.k ≠ 0)
    (hm : deep = false → ∀ v q i b, P v q → l.drop i = prL q ++ 125 :: b → m v i = ⟨q, i + (prL q).length, 0⟩) (i : Nat) (b : List Nat) (h : l.drop i = bdN x ++ b) :
    prN x = 123 :: bdN x ∧ plc l m deep w i = ⟨[x], i + (bdN x).length, 0⟩ := by
  obtain ⟨k, t, n, ws, ks⟩ := x
  simp only [Nd.k] at h5 h0
  rcases hx with ⟨e, _⟩ | ⟨e, _⟩ | ⟨hk, ht, hws, hks, hn⟩ | ⟨hk, hch, ht, hn, hl, ho, hw, hq⟩
  · exact absurd e h0
  · injection e with e; exact absurd e h5
  · simp only [Nd.k, Nd.t, Nd.ws, Nd.ks, Nd.n] at hk ht hws hks hn
    subst ht hws hks
    obtain ⟨n0, n1⟩ := isB_wd hn
    have hn0 : 0 < n.length := List.length_pos_iff.2 n0
    rcases hk with rfl | rfl
    · have hb : bdN (.mk 1 [] n [] []) = n ++ [125] := by simp [bdN, prN]
      refine ⟨by simp [bdN, prN], ?_⟩
      rw [hb, List.append_assoc] at h
      have hf : far wdB l i = i + n.length := far_is h n1 (by intro c hc; simp at hc; subst hc; rfl)
      have hs := sub_at h
      have g1 := at_get (at_next h)
      unfold plc
      simp only
      rw [hf, if_neg (by omega), hs, if_neg (by rw [hn]; simp), if_pos g1, hb]
      simp
      omega
    · have hb : bdN (.mk 2 [] n [] []) = n ++ numP := by simp [bdN, prN]
      refine ⟨by simp [bdN, prN], ?_⟩
      rw [hb, List.append_assoc] at h
      have hf : far wdB l i = i + n.length := far_is h n1 (by intro c hc; simp [numP] at hc; subst hc; rfl)
      have hs := sub_at h
      have h1 : l.drop (i + n.length) = 44 :: ([32] ++ ([110, 117, 109, 98, 101, 114] ++ (125 :: b))) := by rw [at_next h]; rfl
      have g1 := at_get h1
      have h2 := at_more h1
      have hf2 : far (· == 32) l (i + n.length + 1) = i + n.length + 1 + 1 := far_is h2 (by simp) (by intro c hc; simp at hc; subst hc; rfl)
      have h3 := at_next h2
      have hf3 : far wdB l (i + n.length + 1 + 1) = i + n.length + 1 + 1 + 6 := far_is h3 (by decide) (by intro c hc; simp at hc; subst hc; rfl)
      have hs3 : sub l (i + n.length + 1 + 1) (i + n.length + 1 + 1 + 6) = numT := sub_at h3
      have g4 : l[i + n.length + 1 + 1 + 6]? = some 125 := at_get (at_next h3)
      unfold plc
      simp only
      rw [hf, if_neg (by omega), hs, if_neg (by rw [hn]; simp), if_neg (by rw [g1]; simp), if_neg (by rw [g1]; simp), hf2, hf3, if_neg (by omega), hs3, if_neg (by decide), if_pos (by decide), if_neg (by rw [g4]; simp), hb]
      simp [numP]
      omega
  · simp only [Nd.k, Nd.t, Nd.ws, Nd.ks, Nd.n] at hk ht hn hl ho hw hq
    subst ht
    have hd : deep = false := by simpa using hch
    subst hd
    obtain ⟨n0, n1⟩ := isB_wd hn
    have hn0 : 0 < n.length := List.length_pos_iff.2 n0
    have hb : bdN (.mk k [] n ws ks) = n ++ ((if k = 4 then selP else pluP) ++ (prC ws ks ++ [125])) := by
      rcases hk with rfl | rfl <;> simp [bdN, prN]
    have hp : prN (.mk k [] n ws ks) = 123 :: bdN (.mk k [] n ws ks) := by
      rcases hk with rfl | rfl <;> simp [bdN, prN]
    refine ⟨hp, ?_⟩
    rw [hb, List.append_assoc] at h
    simp only [List.append_assoc] at h
    obtain ⟨K, hK, hKw, hKn, hKl⟩ : ∃ K : List Nat, (if k = 4 then selP else pluP) = 44 :: 32 :: (K ++ [44]) ∧ (∀ c ∈ K, wdB c = true) ∧ kndT K = k ∧ K.length = 6 := by
      rcases hk with rfl | rfl
      · exact ⟨pluT, rfl, by decide, by decide, rfl⟩
      · exact ⟨selT, rfl, by decide, by decide, rfl⟩
    rw [hK] at h
    simp only [List.cons_append, List.append_assoc, List.nil_append] at h
    have hf : far wdB l i = i + n.length := far_is h n1 (by intro c hc; simp at hc; subst hc; rfl)
    have hs := sub_at h
    have h1 := at_next h
    have g1 := at_get h1
    have h2 := at_more h1
    have hKh : ∀ c, (K ++ 44 :: (prC ws ks ++ 125 :: b)).head? = some c → (c == 32) = false := by
      intro c hc
      cases hK2 : K with
      | nil => rw [hK2] at hKl; simp at hKl
      | cons a r =>
        rw [hK2] at hc
        simp at hc
        subst hc
        have := (not_wd (hKw a (by rw [hK2]; simp))).1
        simpa using this
    have hf2 : far (· == 32) l (i + n.length + 1) = i + n.length + 1 + 1 := far_is (a := [32]) h2 (by simp) hKh
    have h3 := at_more h2
    have hf3 : far wdB l (i + n.length + 1 + 1) = i + n.length + 1 + 1 + K.length := far_is h3 hKw (by intro c hc; simp at hc; subst hc; rfl)
    have hs3 := sub_at h3
    have h4 := at_next h3
    have g4 := at_get h4
    have h5' := at_more h4
    rw [hKl] at hf3 hs3 h4 g4 h5'
    -- the cases begin
    have hws : ∃ w0 wr, ws = w0 :: wr := by
      cases ws with
      | nil => simp at ho
      | cons a r => exact ⟨a, r, rfl⟩
    have hsk : far (· == 32) l (i + n.length + 1 + 1 + 6 + 1) = i + n.length + 1 + 1 + 6 + 1 + 1 ∧ l.drop (i + n.length + 1 + 1 + 6 + 1 + 1) = prC0 ws ks ++ 125 :: b ∧ (prC ws ks).length = (prC0 ws ks).length + 1 := by
      obtain ⟨w0, wr, rfl⟩ := hws
      cases ks with
      | nil => simp at hl
      | cons q0 qr =>
        rw [prC_cons] at h5' ⊢
        obtain ⟨v1, v2, _⟩ := hw
        refine ⟨far_is (a := [32]) (by simpa using h5') (by simp) ?_, at_more (by simpa using h5'), by simp⟩
        intro c hc
        cases hw0 : w0 with
        | nil => exact absurd hw0 v1
        | cons a v =>
          rw [hw0] at hc
          simp [prC0] at hc
          subst hc
          have := (not_wd (v2 a (by rw [hw0]; simp))).1
          simpa using this
    obtain ⟨e1, e2, e3⟩ := hsk
    have hfuel : ws.length < l.length + 1 := by
      have a1 := prC_len ws ks hl
      have a2 := congrArg List.length h5'
      simp at a2
      omega
    have hcas := cas_back (k := k) (n := n) (m := m (w || k == 3)) ws ks _ (l.length + 1) [] [] b hl hw (by simpa using ho) hfuel (fun q hq' i b hd => hm rfl _ q i b (hq q hq') hd) e2
    have hk0 : kndT K ≠ 0 ∧ kndT K ≠ 2 := by rw [hKn]; omega
    unfold plc
    simp only
    rw [hf, if_neg (by omega), hs, if_neg (by rw [hn]; simp), if_neg (by rw [g1]; simp), if_neg (by rw [g1]; simp), hf2, hf3, if_neg (by omega), hs3, if_neg hk0.1, if_neg hk0.2, if_neg (by simp), if_neg (by rw [g4]; simp), e1, hKn, hcas, hb, hK]
    simp [hKl, e3]
    omega
end D
end Go.Proofs.YtohhfcfnclafdaaGreatDoor
set_option linter.unusedVariables false
set_option linter.unusedSimpArgs false
namespace Go.Proofs.YtohhfcfnclafdaaGreatDoor
namespace D
/-- Behind a message: nothing, or the end of its case. -/
def Sf (s : List Nat) : Prop := s = [] ∨ ∃ r, s = 125 :: r
theorem prN_text {t : List Nat} : prN (.mk 0 t [] [] []) = t := by simp [prN]
theorem prN_sign : prN (.mk 5 [] [] [] []) = [35] := by simp [prN]
section
variable {l : List Nat} {w : Bool} {p : Nat → Ot} {ch : Bool} {kids : Bool → List Nd → Prop}
/-- A place that was printed is read. -/
def Pb (l : List Nat) (w : Bool) (p : Nat → Ot) (ch : Bool) (kids : Bool → List Nd → Prop) : Prop := ∀ (x : Nd) (i : Nat) (b : List Nat), okNd ch kids w x → x.k ≠ 5 → x.k ≠ 0 → l.drop i = bdN x ++ b → prN x = 123 :: bdN x ∧ p i = ⟨[x], i + (bdN x).length, 0⟩
/-- A part that is no text begins with a byte that is not plain. -/
theorem head_item {x : Nd} (hx : okNd ch kids w x) (h0 : x.k ≠ 0) : ∃ c r, prN x = c :: r ∧ plB w c = false := by
  obtain ⟨k, t, n, ws, ks⟩ := x
  rcases hx with ⟨e, _⟩ | ⟨e, hw⟩ | ⟨hk, ht, hws, hks, hn⟩ | ⟨hk, _⟩
  · exact absurd e h0
  · injection e with e1 e2 e3 e4 e5
    subst e1 e2 e3 e4 e5
    exact ⟨35, [], prN_sign, by subst hw; rfl⟩
  · simp only [Nd.k] at hk
    rcases hk with rfl | rfl
    · exact ⟨123, _, by simp [prN]; rfl, by cases w <;> rfl⟩
    · exact ⟨123, _, by simp [prN]; rfl, by cases w <;> rfl⟩
  · simp only [Nd.k] at hk
    rcases hk with rfl | rfl
    · exact ⟨123, _, by simp [prN]; rfl, by cases w <;> rfl⟩
    · exact ⟨123, _, by simp [prN]; rfl, by cases w <;> rfl⟩
theorem head_stop {r : List Nd} {suf : List Nat} (hr : okLs (okNd ch kids w) true r) (hs : Sf suf) : ∀ c, (prL r ++ suf).head? = some c → plB w c = false := by
  intro c hc
  cases r with
  | nil =>
    rcases hs with rfl | ⟨s, rfl⟩
    · simp [prL] at hc
    · simp [prL] at hc
      subst hc
      cases w <;> rfl
  | cons y r =>
    obtain ⟨c', r', e, hp⟩ := head_item hr.1 (hr.2.1 rfl)
    rw [prL, e] at hc
    simp at hc
    subst hc
    exact hp
theorem ne_nil {x : Nd} (hx : okNd ch kids w x) : prN x ≠ [] := by
  by_cases h0 : x.k = 0
  · obtain ⟨k, t, n, ws, ks⟩ := x
    rcases hx with ⟨e, e1, e2, e3, e4, _⟩ | ⟨e, _⟩ | ⟨hk, _⟩ | ⟨hk, _⟩
    · simp only [Nd.k, Nd.n, Nd.ws, Nd.ks, Nd.t] at e e1 e2 e3 e4
      subst e e1 e2 e3
      rw [prN_text]; exact e4
    · injection e with e1; simp [Nd.k, e1] at h0
    · omega
    · omega
  · obtain ⟨c, r, e, _⟩ := head_item hx h0
    rw [e]; simp
theorem len_le : ∀ {pt : Bool} {xs : List Nd}, okLs (okNd ch kids w) pt xs → xs.length ≤ (prL xs).length
  | pt, [], _ => by simp
  | pt, x :: xs, h => by
    have := len_le h.2.2
    have h1 := List.length_pos_iff.2 (ne_nil h.1)
    rw [prL]; simp; omega
theorem mes_eq {f i k : Nat} {acc acc' : List Nd} (hk : far (plB w) l i = k) (ha : (if i < k then acc ++ [.mk 0 (sub l i k) [] [] []] else acc) = acc') : mes l w p (f + 1) i acc =
    (if l[k]? = some 35 then mes l w p f (k + 1) (acc' ++ [.mk 5 [] [] [] []]) else if l[k]? ≠ some 123 then (⟨acc', k, 0⟩ : Ot) else if (p (k + 1)).e ≠ 0 then p (k + 1) else mes l w p f (p (k + 1)).a (acc' ++ [(p (k + 1)).l.headD .zero])) := by
  subst hk ha
  rw [mes]
theorem mes_tail (hp : Pb l w p ch kids) {y : Nd} {rest : List Nat} {k f : Nat} {acc : List Nd} (hy : okNd ch kids w y) (h0 : y.k ≠ 0) (h : l.drop k = prN y ++ rest) :
    (if l[k]? = some 35 then mes l w p f (k + 1) (acc ++ [.mk 5 [] [] [] []]) else if l[k]? ≠ some 123 then (⟨acc, k, 0⟩ : Ot) else if (p (k + 1)).e ≠ 0 then p (k + 1) else mes l w p f (p (k + 1)).a (acc ++ [(p (k + 1)).l.headD .zero]))
      = mes l w p f (k + (prN y).length) (acc ++ [y]) := by
  by_cases h5 : y.k = 5
  · have e : y = .mk 5 [] [] [] [] := by
      rcases hy with ⟨e, _⟩ | ⟨e, _⟩ | ⟨hk, _⟩ | ⟨hk, _⟩
      · omega
      · exact e
      · omega
      · omega
    subst e
    rw [prN_sign] at h ⊢
    rw [if_pos (at_get h)]
    rfl
  · have hh : ∃ r, prN y = 123 :: r := by
      obtain ⟨kk, t, n, ws, ks⟩ := y
      rcases hy with ⟨e, _⟩ | ⟨e, _⟩ | ⟨hk, _⟩ | ⟨hk, _⟩
      · exact absurd e h0
      · injection e with e; exact absurd e h5
      · simp only [Nd.k] at hk
        rcases hk with rfl | rfl <;> exact ⟨_, by simp [prN]; rfl⟩
      · simp only [Nd.k] at hk
        rcases hk with rfl | rfl <;> exact ⟨_, by simp [prN]; rfl⟩
    obtain ⟨r, er⟩ := hh
    have hb : bdN y = r := by rw [bdN, er]; rfl
    rw [er] at h
    have g := at_get h
    obtain ⟨_, e2⟩ := hp y (k + 1) rest hy h5 h0 (by rw [hb]; exact at_more h)
    rw [if_neg (by rw [g]; simp), if_neg (by rw [g]; simp), e2, if_neg (by simp), er, hb]
    simp only [List.headD_cons, List.length_cons]
    rw [show k + 1 + r.length = k + (r.length + 1) by omega]
theorem mes_back (hp : Pb l w p ch kids) : ∀ (m : Nat) (xs : List Nd) (i f : Nat) (acc : List Nd) (suf : List Nat), xs.length ≤ m → okLs (okNd ch kids w) false xs → xs.length < f → Sf suf → l.drop i = prL xs ++ suf →
    mes l w p f i acc = ⟨acc ++ xs, i + (prL xs).length, 0⟩
  | m, xs, i, 0, acc, suf, _, _, hf, _, _ => by omega
  | m, [], i, f + 1, acc, suf, _, _, _, hs, h => by
    have hk : far (plB w) l i = i := far_is (a := []) (b := suf) (by simpa [prL] using h) (by simp) (by
      have := head_stop (ch := ch) (kids := kids) (w := w) (r := []) trivial hs
      simpa [prL] using this)
    rw [mes_eq hk (if_neg (Nat.lt_irrefl i))]
    rcases hs with rfl | ⟨s, rfl⟩
    · have g : l[i]? = none := at_end (by simpa [prL] using h)
      rw [if_neg (by rw [g]; simp), if_pos (by rw [g]; simp)]
      simp [prL]
    · have g : l[i]? = some 125 := at_get (r := s) (by simpa [prL] using h)
      rw [if_neg (by rw [g]; simp), if_pos (by rw [g]; simp)]
      simp [prL]
  | 0, x :: xs, _, _, _, _, hm, _, _, _, _ => by simp at hm
  | m + 1, x :: xs, i, f + 1, acc, suf, hm, hx, hf, hs, h => by
    obtain ⟨x1, _, x3⟩ := hx
    rw [prL, List.append_assoc] at h
    by_cases h0 : x.k = 0
    · have e : ∃ t, x = .mk 0 t [] [] [] ∧ t ≠ [] ∧ ∀ c ∈ t, plB w c = true := by
        obtain ⟨k, t, n, ws, ks⟩ := x
        rcases x1 with ⟨e, e1, e2, e3, e4, e5⟩ | ⟨e, _⟩ | ⟨hk, _⟩ | ⟨hk, _⟩
        · simp only [Nd.k, Nd.n, Nd.ws, Nd.ks, Nd.t] at e e1 e2 e3 e4 e5
          subst e e1 e2 e3
          exact ⟨t, rfl, e4, e5⟩
        · injection e with e1; simp [Nd.k, e1] at h0
        · omega
        · omega
      obtain ⟨t, rfl, t0, t1⟩ := e
      rw [prN_text] at h
      have x3' : okLs (okNd ch kids w) true xs := x3
      have hk : far (plB w) l i = i + t.length := far_is h t1 (head_stop x3' hs)
      have ht : 0 < t.length := List.length_pos_iff.2 t0
      rw [mes_eq hk ((if_pos (by omega)).trans (by rw [sub_at h]))]
      have h1 := at_next h
      cases xs with
      | nil =>
        rcases hs with rfl | ⟨s, rfl⟩
        · have g : l[i + t.length]? = none := at_end (by simpa [prL] using h1)
          rw [if_neg (by rw [g]; simp), if_pos (by rw [g]; simp)]
          simp [prL, prN_text]
        · have g : l[i + t.length]? = some 125 := at_get (r := s) (by simpa [prL] using h1)
          rw [if_neg (by rw [g]; simp), if_pos (by rw [g]; simp)]
          simp [prL, prN_text]
      | cons y r =>
        obtain ⟨y1, y2, y3⟩ := x3'
        have y0 := y2 rfl
        rw [prL, List.append_assoc] at h1
        rw [mes_tail hp y1 y0 h1, mes_back hp m r _ f _ suf (by simp at hm; omega) (by rwa [show (y.k == 0) = false by simpa using y0] at y3) (by simp at hf; omega) hs (at_next h1)]
        simp [prL, prN_text]
        omega
    · obtain ⟨c, r', ec, hpc⟩ := head_item x1 h0
      have hk : far (plB w) l i = i := far_is (a := []) h (by simp) (by intro c' hc'; rw [ec] at hc'; simp at hc'; subst hc'; exact hpc)
      rw [mes_eq hk (if_neg (Nat.lt_irrefl i)), mes_tail hp x1 h0 h, mes_back hp m xs _ f _ suf (by simp at hm; omega) (by rwa [show (x.k == 0) = false by simpa using h0] at x3) (by simp at hf; omega) hs (at_next h)]
      simp [prL]
      omega
end
theorem rt_len : ∀ {r : Nat} {w : Bool} {xs : List Nd}, Rt r w xs → xs.length ≤ (prL xs).length
  | 0, w, xs, h => len_le h
  | r + 1, w, xs, h => len_le h
theorem msg_back (l : List Nat) : ∀ (r : Nat) (w : Bool) (xs : List Nd) (i : Nat) (suf : List Nat), Rt r w xs → Sf suf → l.drop i = prL xs ++ suf → msg l r w i = ⟨xs, i + (prL xs).length, 0⟩
  | 0, w, xs, i, suf, hx, hs, h => by
    have hl : xs.length < l.length + 1 := by
      have a1 := rt_len hx
      have a2 := congrArg List.length h
      simp at a2
      omega
    have := mes_back (l := l) (w := w) (p := plc l (fun _ i => er_ i 19) true w) (ch := false) (kids := fun _ _ => False)
      (fun x i b h1 h2 h3 h4 => plc_back (deep := true) (P := fun _ _ => False) h1 h2 h3 (fun h => by cases h) i b h4) xs.length xs i (l.length + 1) [] suf (Nat.le_refl _) hx hl hs h
    simpa [msg] using this
  | r + 1, w, xs, i, suf, hx, hs, h => by
    have hl : xs.length < l.length + 1 := by
      have a1 := rt_len hx
      have a2 := congrArg List.length h
      simp at a2
      omega
    have := mes_back (l := l) (w := w) (p := plc l (msg l r) false w) (ch := true) (kids := Rt r)
      (fun x i b h1 h2 h3 h4 => plc_back (deep := false) (P := Rt r) h1 h2 h3 (fun _ v q i b hq hd => msg_back l r v q i (125 :: b) hq (.inr ⟨b, rfl⟩) hd) i b h4) xs.length xs i (l.length + 1) [] suf (Nat.le_refl _) hx hl hs h
    simpa [msg] using this
/-- What is printed is read as it was. -/
theorem rd_pr {xs : List Nd} (h : Rt 3 false xs) (hl : (prL xs).length ≤ 60) : rdM (prL xs) = ⟨xs, 0, 0⟩ := by
  have hb := msg_back (prL xs) 3 false xs 0 [] h (.inl rfl) (by simp)
  unfold rdM
  rw [if_neg (by omega)]
  simp only
  rw [hb]
  simp
theorem pr_inj {xs ys : List Nd} (h : Rt 3 false xs) (k : Rt 3 false ys) (hl : (prL xs).length ≤ 60) (e : prL xs = prL ys) : xs = ys := by
  have h1 := rd_pr h hl
  have h2 := rd_pr k (by rw [← e]; exact hl)
  rw [e, h2] at h1
  exact (congrArg Ot.l h1).symm
end D
end Go.Proofs.YtohhfcfnclafdaaGreatDoor
set_option linter.unusedVariables false
set_option linter.unusedSimpArgs false
set_option maxRecDepth 100000
namespace Go.Proofs.YtohhfcfnclafdaaGreatDoor
open Go.RowKit
attribute [local go_sem ↓] Go.wp_at_zero Go.wp_at_succ

theorem ns_get {s : ByteArray} {k : Nat} (h : k < s.size) : (D.ns s)[k]? = some s[k].toNat := by
  have h' : k < s.data.toList.length := by simpa using h
  simp only [D.ns, List.getElem?_map, List.getElem?_eq_getElem h', Option.map_some]
  rfl
/-- Which class a byte is of, as words see it. -/
theorem cls8 (c : Nat) : (c < 45 ∧ D.wdB c = false) ∨ (c = 45 ∧ D.wdB c = true) ∨ (c = 46 ∧ D.wdB c = true) ∨ (c = 47 ∧ D.wdB c = false) ∨ (48 ≤ c ∧ c ≤ 57 ∧ D.wdB c = true) ∨ (58 ≤ c ∧ c < 95 ∧ D.wdB c = false) ∨ (c = 95 ∧ D.wdB c = true) ∨ (c = 96 ∧ D.wdB c = false) ∨ (97 ≤ c ∧ c ≤ 122 ∧ D.wdB c = true) ∨ (122 < c ∧ D.wdB c = false) := by
  have key : D.wdB c = decide ((97 ≤ c ∧ c ≤ 122) ∨ (48 ≤ c ∧ c ≤ 57) ∨ c = 45 ∨ c = 95 ∨ c = 46) := by
    unfold D.wdB
    by_cases h1 : 97 ≤ c ∧ c ≤ 122 <;> by_cases h3 : 48 ≤ c ∧ c ≤ 57 <;> by_cases h5 : c = 45 <;> by_cases h6 : c = 95 <;> by_cases h7 : c = 46 <;> simp [*]
  rw [key]
  rcases (show c < 45 ∨ c = 45 ∨ c = 46 ∨ c = 47 ∨ (48 ≤ c ∧ c ≤ 57) ∨ (58 ≤ c ∧ c < 95) ∨ c = 95 ∨ c = 96 ∨ (97 ≤ c ∧ c ≤ 122) ∨ 122 < c by omega) with h | h | h | h | h | h | h | h | h | h
  · exact .inl ⟨h, decide_eq_false (by omega)⟩
  · exact .inr (.inl ⟨h, decide_eq_true (by omega)⟩)
  · exact .inr (.inr (.inl ⟨h, decide_eq_true (by omega)⟩))
  · exact .inr (.inr (.inr (.inl ⟨h, decide_eq_false (by omega)⟩)))
  · exact .inr (.inr (.inr (.inr (.inl ⟨h.1, h.2, decide_eq_true (by omega)⟩))))
  · exact .inr (.inr (.inr (.inr (.inr (.inl ⟨h.1, h.2, decide_eq_false (by omega)⟩)))))
  · exact .inr (.inr (.inr (.inr (.inr (.inr (.inl ⟨h, decide_eq_true (by omega)⟩))))))
  · exact .inr (.inr (.inr (.inr (.inr (.inr (.inr (.inl ⟨h, decide_eq_false (by omega)⟩)))))))
  · exact .inr (.inr (.inr (.inr (.inr (.inr (.inr (.inr (.inl ⟨h.1, h.2, decide_eq_true (by omega)⟩))))))))
  · exact .inr (.inr (.inr (.inr (.inr (.inr (.inr (.inr (.inr ⟨h, decide_eq_false (by omega)⟩))))))))
end Go.Proofs.YtohhfcfnclafdaaGreatDoor
