/-
  Two messages held against each other, list by list. No program is spoken of.
  What lies in memory is one message: two readings of one slice are the same.
  The program tells whether two parts are the same, but for what stands in their cases.
-/
import Derived.Test.YtohhfcfnclafdaaGreatDoorG27
import Derived.Test.YtohhfcfnclafdaaGreatDoorG33
set_option linter.unusedVariables false
set_option linter.unusedSimpArgs false
namespace Go.Proofs.YtohhfcfnclafdaaGreatDoor
namespace D
/-- What a part is, but for its cases' messages. -/
def hd (x : Nd) : Nat × List Nat × List Nat × List (List Nat) := (x.k, x.t, x.n, x.ws)
/-- The cases' messages, side by side. -/
def kps : List Nd → List Nd → List (List Nd × List Nd)
  | x :: l, y :: m => x.ks.zip y.ks ++ kps l m
  | [], _ => []
  | _ :: _, [] => []
def wt (l : List Nd) : Nat := 1 + (prL l).length
def wts : List (List Nd × List Nd) → Nat
  | [] => 0
  | p :: z => wt p.1 + wts z
theorem wts_app : ∀ (a b : List (List Nd × List Nd)), wts (a ++ b) = wts a + wts b
  | [], b => by simp [wts]
  | p :: a, b => by simp [wts, wts_app a b, Nat.add_assoc]
theorem wts_mem : ∀ {a : List (List Nd × List Nd)} {p : List Nd × List Nd}, p ∈ a → wt p.1 ≤ wts a
  | [], p, h => by cases h
  | q :: a, p, h => by
    rcases List.mem_cons.1 h with rfl | h
    · simp [wts]
    · have := wts_mem h; simp [wts]; omega
theorem wts_len : ∀ (a : List (List Nd × List Nd)), a.length ≤ wts a
  | [] => Nat.le_refl _
  | p :: a => by have := wts_len a; simp [wts, wt]; omega
theorem prC_wts : ∀ {ws : List (List Nat)} {ks ks' : List (List Nd)}, ws.length = ks.length → wts (ks.zip ks') ≤ (prC ws ks).length
  | [], [], ks', _ => by simp [wts]
  | [], k :: ks, ks', h => by simp at h
  | w :: ws, [], ks', h => by simp at h
  | w :: ws, k :: ks, [], _ => by simp [wts]
  | w :: ws, k :: ks, k' :: ks', h => by
    have := prC_wts (ws := ws) (ks := ks) (ks' := ks') (by simpa using h)
    simp [wts, prC, wt]; omega
/-- As many words as messages; messages only in choices. -/
def Wl (l : List Nd) : Prop := ∀ x ∈ l, x.ws.length = x.ks.length ∧ (x.ks = [] ∨ x.k = 3 ∨ x.k = 4)
theorem okNd_wl {ch v : Bool} {kids : Bool → List Nd → Prop} {x : Nd} (h : okNd ch kids v x) : x.ws.length = x.ks.length ∧ (x.ks = [] ∨ x.k = 3 ∨ x.k = 4) := by
  rcases h with ⟨_, _, h1, h2, _⟩ | ⟨h, _⟩ | ⟨_, _, h1, h2, _⟩ | ⟨hk, _, _, _, hl, _⟩
  · rw [h1, h2]; exact ⟨rfl, .inl rfl⟩
  · rw [h]; exact ⟨rfl, .inl rfl⟩
  · rw [h1, h2]; exact ⟨rfl, .inl rfl⟩
  · exact ⟨hl, .inr hk⟩
theorem okLs_mem {N : Nd → Prop} : ∀ {pt : Bool} {l : List Nd}, okLs N pt l → ∀ x ∈ l, N x
  | pt, [], _, x, h => by cases h
  | pt, y :: l, h, x, hx => by
    rcases List.mem_cons.1 hx with rfl | hx
    · exact h.1
    · exact okLs_mem h.2.2 x hx
theorem rt_wl : ∀ {r : Nat} {v : Bool} {l : List Nd}, Rt r v l → Wl l
  | 0, v, l, h => fun x hx => okNd_wl (okLs_mem h x hx)
  | r + 1, v, l, h => fun x hx => okNd_wl (okLs_mem h x hx)
theorem kps_wt : ∀ {l m : List Nd}, Wl l → wts (kps l m) ≤ (prL l).length
  | [], m, _ => by simp [kps, wts]
  | x :: l, [], _ => by simp [kps, wts]
  | x :: l, y :: m, h => by
    have h1 := kps_wt (l := l) (m := m) fun z hz => h z (by simp [hz])
    obtain ⟨h2, h3⟩ := h x (by simp)
    have h4 : wts (x.ks.zip y.ks) ≤ (prN x).length := by
      rcases h3 with e | hk
      · rw [e]; simp [wts]
      · exact Nat.le_trans (prC_wts h2) (prN_cas hk)
    simp only [kps, wts_app, prL, List.length_append]
    omega
theorem zip_eq {α : Type} : ∀ {a b : List α}, a.length = b.length → (∀ p ∈ a.zip b, p.1 = p.2) → a = b
  | [], [], _, _ => rfl
  | [], y :: b, h, _ => by simp at h
  | x :: a, [], h, _ => by simp at h
  | x :: a, y :: b, h, hp => by
    have h1 : x = y := hp (x, y) (by simp)
    have h2 := zip_eq (a := a) (b := b) (by simpa using h) fun p hq => hp p (by simp [hq])
    rw [h1, h2]
theorem nd_eq {x y : Nd} (h : hd x = hd y) (hk : x.ks = y.ks) : x = y := by
  obtain ⟨k, t, n, ws, ks⟩ := x
  obtain ⟨k', t', n', ws', ks'⟩ := y
  simp only [hd, Nd.k, Nd.t, Nd.n, Nd.ws, Nd.ks, Prod.mk.injEq] at h hk
  obtain ⟨rfl, rfl, rfl, rfl⟩ := h
  rw [hk]
theorem eq_of_kps : ∀ {l m : List Nd}, Wl l → Wl m → l.map hd = m.map hd → (∀ p ∈ kps l m, p.1 = p.2) → l = m
  | [], [], _, _, _, _ => rfl
  | [], y :: m, _, _, h, _ => by simp at h
  | x :: l, [], _, _, h, _ => by simp at h
  | x :: l, y :: m, hl, hm, h, hp => by
    simp only [List.map_cons, List.cons.injEq] at h
    have h1 := (hl x (by simp)).1
    have h2 := (hm y (by simp)).1
    have hw : x.ws = y.ws := by have := h.1; simp only [hd, Prod.mk.injEq] at this; exact this.2.2.2
    have hk : x.ks = y.ks := zip_eq (by rw [← h1, ← h2, hw]) fun p hq => hp p (by simp [kps, hq])
    rw [nd_eq h.1 hk, eq_of_kps (l := l) (m := m) (fun z hz => hl z (by simp [hz])) (fun z hz => hm z (by simp [hz])) h.2 fun p hq => hp p (by simp [kps, hq])]
theorem zip_self {α : Type} : ∀ (a : List α), ∀ p ∈ a.zip a, p.1 = p.2
  | [], p, h => by simp at h
  | x :: a, p, h => by
    simp at h
    rcases h with rfl | h
    · rfl
    · exact zip_self a p (by simpa using h)
theorem kps_self : ∀ (l : List Nd), ∀ p ∈ kps l l, p.1 = p.2
  | [], p, h => by simp [kps] at h
  | x :: l, p, h => by
    simp only [kps, List.mem_append] at h
    rcases h with h | h
    · exact zip_self _ p h
    · exact kps_self l p h
/-- Pairs of lists that are closed, and the same part by part, are of the same lists. -/
theorem met_eq {M : List (List Nd × List Nd)} (h : ∀ p ∈ M, p.1.map hd = p.2.map hd ∧ Wl p.1 ∧ Wl p.2 ∧ ∀ z ∈ kps p.1 p.2, z ∈ M) : ∀ (n : Nat), ∀ p ∈ M, wt p.1 ≤ n → p.1 = p.2
  | 0, p, hp, hn => by unfold wt at hn; omega
  | n + 1, p, hp, hn => by
    obtain ⟨h1, h2, h3, h4⟩ := h p hp
    refine eq_of_kps h2 h3 h1 fun z hz => met_eq h n z (h4 z hz) ?_
    have e1 := wts_mem hz
    have e2 := kps_wt (m := p.2) h2
    unfold wt at hn ⊢
    unfold wt at e1
    omega
/-- What such pairs were made of: what is to do, and what is done. -/
def Clo (T M : List (List Nd × List Nd)) : Prop := ∀ p ∈ M, p.1.map hd = p.2.map hd ∧ Wl p.1 ∧ Wl p.2 ∧ ∀ z ∈ kps p.1 p.2, z ∈ T ∨ z ∈ M
/-- One more is done. -/
theorem Clo.step {T M : List (List Nd × List Nd)} {p : List Nd × List Nd} (h : Clo (T ++ [p]) M) (h1 : p.1.map hd = p.2.map hd) (h2 : Wl p.1) (h3 : Wl p.2) : Clo (T ++ kps p.1 p.2) (M ++ [p]) := by
  intro q hq
  rcases List.mem_append.1 hq with hq | hq
  · obtain ⟨a, b, c, d⟩ := h q hq
    refine ⟨a, b, c, fun z hz => ?_⟩
    rcases d z hz with d | d
    · rcases List.mem_append.1 d with d | d
      · exact .inl (List.mem_append.2 (.inl d))
      · exact .inr (List.mem_append.2 (.inr d))
    · exact .inr (List.mem_append.2 (.inl d))
  · obtain rfl : q = p := by simpa using hq
    exact ⟨h1, h2, h3, fun z hz => .inl (List.mem_append.2 (.inr hz))⟩
/-- One that was done is done once more. -/
theorem Clo.skip {T M : List (List Nd × List Nd)} {p : List Nd × List Nd} (h : Clo (T ++ [p]) M) (hm : p ∈ M) : Clo T M := by
  intro q hq
  obtain ⟨a, b, c, d⟩ := h q hq
  refine ⟨a, b, c, fun z hz => ?_⟩
  rcases d z hz with d | d
  · rcases List.mem_append.1 d with d | d
    · exact .inl d
    · obtain rfl : z = p := by simpa using d
      exact .inr hm
  · exact .inr d
theorem Clo.done {M : List (List Nd × List Nd)} {p : List Nd × List Nd} (h : Clo [] M) (hm : p ∈ M) : p.1 = p.2 :=
  met_eq (fun q hq => by
    obtain ⟨a, b, c, d⟩ := h q hq
    exact ⟨a, b, c, fun z hz => (d z hz).resolve_left (by simp)⟩) _ p hm (Nat.le_refl _)
end D
end Go.Proofs.YtohhfcfnclafdaaGreatDoor
set_option linter.unusedVariables false
set_option linter.unusedSimpArgs false
set_option maxRecDepth 100000
namespace Go.Proofs.YtohhfcfnclafdaaGreatDoor
open Go.RowKit

theorem rw_uniq {sz : Nat} {w : World} {A : Option Addr} {n : Nat} {xs ys : List Value} (h : Rw sz w A n xs) (k : Rw sz w A n ys) : xs = ys := by
  refine List.ext_getElem? fun j => ?_
  by_cases hj : j < n * sz
  · have e1 : xs[j]? = some (xs[j]'(by rw [h.len]; exact hj)) := List.getElem?_eq_getElem _
    have e2 : ys[j]? = some (ys[j]'(by rw [k.len]; exact hj)) := List.getElem?_eq_getElem _
    obtain ⟨ad, ha, _, c1⟩ := h.cell e1
    obtain ⟨ad', ha', _, c2⟩ := k.cell e2
    rw [ha] at ha'
    injection ha' with ha'
    subst ha'
    rw [c1] at c2
    injection c2 with c2
    rw [e1, e2, c2]
  · rw [List.getElem?_eq_none (by rw [h.len]; omega), List.getElem?_eq_none (by rw [k.len]; omega)]
theorem rcs_inj {α : Type} (S : Shp α) : ∀ {l k : List α}, S.rcs l = S.rcs k → l = k
  | [], [], _ => rfl
  | [], y :: k, h => by
    have := congrArg List.length h
    rw [Shp.rcs_len, Shp.rcs_len] at this
    have := S.pos
    simp [Nat.add_mul] at *
    omega
  | x :: l, [], h => by
    have := congrArg List.length h
    rw [Shp.rcs_len, Shp.rcs_len] at this
    have := S.pos
    simp [Nat.add_mul] at *
    omega
  | x :: l, y :: k, h => by
    rw [Shp.rcs_cons, Shp.rcs_cons] at h
    obtain ⟨h1, h2⟩ := List.append_inj h (by rw [S.len, S.len])
    rw [S.inj h1, rcs_inj S h2]
theorem ccs_inj : ∀ {a b : List (List Nat × Value)}, D.B8 (a.map (·.1)) → D.B8 (b.map (·.1)) → ccs a = ccs b → a = b
  | [], [], _, _, _ => rfl
  | [], (t, u) :: b, _, _, h => by simp [ccs] at h
  | (t, u) :: a, [], _, _, h => by simp [ccs] at h
  | (t, u) :: a, (t', u') :: b, ha, hb, h => by
    simp only [ccs, List.cons.injEq, Value.string.injEq] at h
    obtain ⟨h1, h2, h3⟩ := h
    have e : t = t' := D.sb_inj (ha t (by simp)) (hb t' (by simp)) h1
    rw [e, h2, ccs_inj (a := a) (b := b) (fun x hx => ha x (by simp only [List.map_cons, List.mem_cons]; exact .inr hx)) (fun x hx => hb x (by simp only [List.map_cons, List.mem_cons]; exact .inr hx)) h3]
/-- A right part's name: none, or a right one, by its kind. -/
theorem D.okNd_nm {ch v : Bool} {kids : Bool → List D.Nd → Prop} {x : D.Nd} (h : D.okNd ch kids v x) : ((x.k = 0 ∨ x.k = 5) ∧ x.n = []) ∨ ((x.k ≠ 0 ∧ x.k ≠ 5) ∧ Nm.D.isB x.n = true) := by
  rcases h with ⟨e, h, _⟩ | ⟨h, _⟩ | ⟨hk, _, _, _, h⟩ | ⟨hk, _, _, h, _⟩
  · exact .inl ⟨.inl e, h⟩
  · rw [h]; exact .inl ⟨.inr rfl, rfl⟩
  · exact .inr ⟨by omega, h⟩
  · exact .inr ⟨by omega, h⟩
theorem D.pnm_inj {ch v ch' v' : Bool} {kids kids' : Bool → List D.Nd → Prop} {x y : D.Nd} (h : D.okNd ch kids v x) (h' : D.okNd ch' kids' v' y) (hb : ∀ c ∈ x.n, c < 256) (hb' : ∀ c ∈ y.n, c < 256) (hk : x.k = y.k) (e : D.pnm x = D.pnm y) : x.n = y.n := by
  have e1 : Nm.D.padl (D.ns (D.sb x.n)) 12 = Nm.D.padl (D.ns (D.sb y.n)) 12 := congrArg Nm.D.Nm.l e
  rw [D.ns_sb hb, D.ns_sb hb'] at e1
  rcases D.okNd_nm h with ⟨a, b⟩ | ⟨a, b⟩ <;> rcases D.okNd_nm h' with ⟨a', b'⟩ | ⟨a', b'⟩
  · rw [b, b']
  · omega
  · omega
  · exact Nm.D.pad_inj b b' e1
theorem D.kids_le_ {k : Bool → List D.Nd → Prop} {ch v : Bool} {x : D.Nd} (hx : D.okNd ch k v x) (hz : (D.prN x).length ≤ 1000) : x.ws.length ≤ 1000 ∧ x.ks.length ≤ 1000 := by
  rcases hx with ⟨_, _, h2, h3, _⟩ | ⟨h, _⟩ | ⟨_, _, h2, h3, _⟩ | ⟨hk, _, _, _, hll, _, _, _⟩
  · rw [h2, h3]; exact ⟨by simp, by simp⟩
  · rw [h]; exact ⟨by simp [D.Nd.ws], by simp [D.Nd.ks]⟩
  · rw [h2, h3]; exact ⟨by simp, by simp⟩
  · have h1 := D.prN_cas hk
    have h2 := D.prC_lenw hll
    omega
/-- What may stand in a case of right parts. -/
def D.Rk : Nat → Bool → List D.Nd → Prop
  | 0 => fun _ _ => False
  | r + 1 => D.Rt r
theorem D.rt_ok : ∀ {r : Nat} {v : Bool} {l : List D.Nd}, D.Rt r v l → ∃ ch, D.okLs (D.okNd ch (D.Rk r) v) false l
  | 0, v, l, h => ⟨false, h⟩
  | r + 1, v, l, h => ⟨true, h⟩
theorem D.kid_rk {ch v : Bool} {r : Nat} {x : D.Nd} (h : D.okNd ch (D.Rk r) v x) {q : List D.Nd} (hq : q ∈ x.ks) : ∃ v', D.Rk r v' q := by
  rcases h with ⟨_, _, _, h, _⟩ | ⟨h, _⟩ | ⟨_, _, _, h, _⟩ | ⟨_, _, _, _, _, _, _, h⟩
  · rw [h] at hq; cases hq
  · rw [h] at hq; cases hq
  · rw [h] at hq; cases hq
  · exact ⟨_, h q hq⟩
theorem row_uniq {F F' : Nat → Prop} {w : World} {r r' : Nat} {v v' : Bool} {A : Option Addr} {n c c' : Nat} {l l' : List D.Nd} (h : Pm F w r (.slice A n c) l) (h' : Pm F' w r' (.slice A n c') l') (hR : D.Rt r v l) (hR' : D.Rt r' v' l')
    (hK : ∀ u q q' a b, Pk F w r u q → Pk F' w r' u q' → D.Rk r a q → D.Rk r' b q' → q = q') : l = l' := by
  obtain ⟨_, _, _, vs, e, _, hr, rfl, hx⟩ := (Pm_eq F w r _ _).1 h
  cases e
  obtain ⟨_, _, _, us, e, _, hr', rfl, hx'⟩ := (Pm_eq F' w r' _ _).1 h'
  cases e
  obtain ⟨ch, ho⟩ := D.rt_ok hR
  obtain ⟨ch', ho'⟩ := D.rt_ok hR'
  have hv := rcs_inj nS (rw_uniq hr.row hr'.row)
  have hl : vs.length = us.length := by have := congrArg List.length hv; rwa [nvs_len, nvs_len] at this
  refine List.ext_getElem (by simp [hl]) fun j hj1 hj2 => ?_
  have hj1' : j < vs.length := by simpa using hj1
  have hj2' : j < us.length := by simpa using hj2
  obtain ⟨⟨x, p⟩, ex⟩ : ∃ a, vs[j]? = some a := ⟨_, List.getElem?_eq_getElem hj1'⟩
  obtain ⟨⟨y, p'⟩, ey⟩ : ∃ a, us[j]? = some a := ⟨_, List.getElem?_eq_getElem hj2'⟩
  have ex1 : (vs.map (·.1))[j] = x := by have := (List.getElem?_eq_some_iff.1 ex).2; simp [this]
  have ey1 : (us.map (·.1))[j] = y := by have := (List.getElem?_eq_some_iff.1 ey).2; simp [this]
  rw [ex1, ey1]
  have en : nv x p.A p.m p.c = nv y p'.A p'.m p'.c := by
    have e1 := nvs_at ex
    have e2 := nvs_at ey
    rw [hv, e2] at e1
    injection e1 with e1
    exact e1.symm
  have ox := (D.okLs_at ho (vs_list rfl ex)).1
  have oy := (D.okLs_at ho' (vs_list rfl ey)).1
  obtain ⟨⟨bt, bn, bw⟩, _, cs, hc, hw, _, hcl, hk⟩ := hx j x p ex
  obtain ⟨⟨bt', bn', bw'⟩, _, cs', hc', hw', _, hcl', hk'⟩ := hx' j y p' ey
  simp only [nv, D.Nv.mk.injEq] at en
  obtain ⟨e1, e2, e3, e4, e5, e6⟩ := en
  have hcs : cs = cs' := by
    refine ccs_inj (by rw [hw]; exact bw) (by rw [hw']; exact bw') ?_
    rw [← e4, ← e5] at hc'
    exact rw_uniq hc.row hc'.row
  refine D.nd_eq ?_ ?_
  · simp only [D.hd, Prod.mk.injEq]
    exact ⟨e1, D.sb_inj bt bt' e2, D.pnm_inj ox oy bn bn' e1 e3, by rw [← hw, ← hw', hcs]⟩
  · have hll := congrArg List.length hcs
    refine List.ext_getElem (by omega) fun i h1 h2 => ?_
    have hi : i < cs.length := by omega
    have ec : cs[i]? = some ((cs[i]'hi).1, (cs[i]'hi).2) := List.getElem?_eq_getElem hi
    have q1 := hk i _ _ _ ec (List.getElem?_eq_getElem h1)
    have q2 := hk' i (cs[i]'hi).1 (cs[i]'hi).2 _ (by rw [← hcs]; exact ec) (List.getElem?_eq_getElem h2)
    obtain ⟨a, ha⟩ := D.kid_rk ox (List.getElem_mem h1)
    obtain ⟨b, hb⟩ := D.kid_rk oy (List.getElem_mem h2)
    exact hK _ _ _ a b q1 q2 ha hb
theorem pm_uniq {F F' : Nat → Prop} {w : World} : ∀ (r r' : Nat) {v v' : Bool} {A : Option Addr} {n c c' : Nat} {l l' : List D.Nd}, Pm F w r (.slice A n c) l → Pm F' w r' (.slice A n c') l' → D.Rt r v l → D.Rt r' v' l' → l = l'
  | 0, r', v, v', A, n, c, c', l, l', h, h', hR, hR' => row_uniq h h' hR hR' fun _ _ _ _ _ h => h.elim
  | r + 1, r', v, v', A, n, c, c', l, l', h, h', hR, hR' => row_uniq h h' hR hR' fun u q q' a b k k' ha hb => by
    cases r' with
    | zero => exact k'.elim
    | succ r' =>
      obtain ⟨A, n, c, rfl⟩ := pm_slice (show Pm F w r u q from k)
      exact pm_uniq r r' (show Pm F w r _ q from k) (show Pm F' w r' _ q' from k') ha hb
end Go.Proofs.YtohhfcfnclafdaaGreatDoor
set_option linter.unusedVariables false
set_option linter.unusedSimpArgs false
set_option maxRecDepth 100000
namespace Go.Proofs.YtohhfcfnclafdaaGreatDoor
open Go.RowKit
attribute [local go_sem ↓] Go.wp_at_zero Go.wp_at_succ Nm.ld_a Nm.ld_n Nm.st_a Nm.st_n Nm.lv_a Nm.lv_n Nm.eq_a Nm.eq_n Nm.ne_a Nm.ne_n ld_nd lv_nd st_nd bd_nd bs_nd
attribute [local go_sem] Nm.run_ld_a Nm.run_ld_n Nm.run_lv_a Nm.run_lv_n Nm.run_eq_a Nm.run_eq_n Nm.run_ne_a Nm.run_ne_n Nm.rd_new Nm.rd_old Nm.rd_drew Nm.rd_drewN Nm.st_z run_lvnd run_ldnd run_stnd_new run_bsnd run_bdnd_1 run_bdnd_5 run_bdnd_0 Shp.rd_new Shp.rd_old Shp.rd_drew Shp.rd_drewN

theorem sameWord_any (t t' : List Nat) (v v' : Value) (h1 : v.oneCell' = true) (h1' : v'.oneCell' = true) (ht : ∀ b ∈ t, b < 256) (ht' : ∀ b ∈ t', b < 256) (w : World) :
    Calls Tryz.prog 89 #[.agg #[.string (D.sb t), v], .agg #[.string (D.sb t'), v']] w fun e w' => e = .returned (.bool (decide (t = t'))) ∧ Below w.heap.size w w' := by
  have tt := txt_eq (D.sb t) (D.sb t')
  rw [D.ns_sb ht, D.ns_sb ht'] at tt
  obtain ⟨b, hb⟩ : ∃ b, decide (t = t') = b := ⟨_, rfl⟩
  rw [hb] at tt ⊢
  clear hb
  go_enter Tryz.func89, Tryz.ntmps89
  go_wp2
  go_ret
  exact ⟨rfl, ((Below.refl _ _).alloc (Nat.le_refl _) _).alloc (by simp) _⟩
theorem eqCases_any (A B : Option Addr) (n m c d : Nat) (cs us : List (List Nat × Value)) (w : World) (hr : Rw 2 w A n (ccs cs)) (hs : Rw 2 w B m (ccs us)) (hb : D.B8 (cs.map (·.1))) (hb' : D.B8 (us.map (·.1))) (h1 : ∀ x ∈ cs, ∃ (A : Option Addr) (n c : Nat), x.2 = .slice A n c) (h1' : ∀ x ∈ us, ∃ (A : Option Addr) (n c : Nat), x.2 = .slice A n c) (hn : n ≤ 1000000) :
    Calls Tryz.prog 90 #[.slice A n c, .slice B m d, .func (.func 89) #[] #[]] w fun e w' => e = .returned (.bool (decide (cs.map (·.1) = us.map (·.1)))) ∧ Below w.heap.size w w' := by
  have hlen := hr.len
  rw [ccs_len] at hlen
  have hlen : cs.length = n := by omega
  have hlen2 := hs.len
  rw [ccs_len] at hlen2
  have hlen2 : us.length = m := by omega
  have HR := Lib.hid hr
  have HS := Lib.hid hs
  clear hr hs
  by_cases hnm : n = m
  · have i0 : ((n : Int) != (m : Int)) = false := by simp [hnm]
    go_enter Tryz.func90, Tryz.ntmps90
    go_wp2_with fail
    go_loopw [17] (fun a wr => ∃ k : Nat, k ≤ n ∧ a = .int .i64 k ∧ Kept (∀ j, j < k → (cs.map (·.1))[j]? = (us.map (·.1))[j]?) ∧ Below w.heap.size w wr) (fun a _ => n - (intOf a).toNat)
    case atStart => exact ⟨0, Nat.zero_le _, rfl, ⟨fun j hj => by omega⟩, Below.refl _ _⟩
    case round =>
      obtain ⟨k, hk, rfl, HN, z⟩ := hrel
      have Z := Lib.hid z
      clear z
      by_cases hlt : k < n
      · obtain ⟨⟨a, v⟩, ha⟩ : ∃ a, cs[k]? = some a := ⟨_, List.getElem?_eq_getElem (by omega)⟩
        obtain ⟨⟨a', v'⟩, ha'⟩ : ∃ a, us[k]? = some a := ⟨_, List.getElem?_eq_getElem (by omega)⟩
        have hm : (cs.map (·.1))[k]? = some a := by simp [ha]
        have hm' : (us.map (·.1))[k]? = some a' := by simp [ha']
        obtain ⟨x1, x2, x3, rfl⟩ : ∃ (A : Option Addr) (n c : Nat), v = .slice A n c := h1 _ (List.mem_of_getElem? ha)
        obtain ⟨x1', x2', x3', rfl⟩ : ∃ (A : Option Addr) (n c : Nat), v' = .slice A n c := h1' _ (List.mem_of_getElem? ha')
        have C := Lib.hid (fun W => sameWord_any a a' (.slice x1 x2 x3) (.slice x1' x2' x3') rfl rfl (hb a (List.mem_of_getElem? hm)) (hb' a' (List.mem_of_getElem? hm')) W)
        obtain ⟨ad, rfl, hbk, hc0, hc1⟩ := case_cells (HR.out.on Z.out) ha
        obtain ⟨ae, rfl, hbk', hd0, hd1⟩ := case_cells ((HS.out.on Z.out).alloc (.cells #[.string (D.sb a), .slice x1 x2 x3] 149)) ha'
        have hI : (k : Int) < n := by omega
        have hI' : (k : Int) < m := by omega
        clear ha ha' hnm
        by_cases e : a = a'
        · subst e
          rw [decide_eq_true rfl] at C
          have HN' : Kept (∀ j, j < k + 1 → (cs.map (·.1))[j]? = (us.map (·.1))[j]?) := ⟨fun j hj => by
            obtain h | rfl : j < k ∨ j = k := by omega
            · exact HN.out j h
            · rw [hm, hm']⟩
          clear HN hm hm' hb hb' h1 h1'
          go_wp2_with (go_at_call 89; (with_reducible refine (C.out _).mono ?_); rintro e w1 ⟨rfl, b1⟩; have B1 := Lib.hid b1; clear b1)
          go_roundw
          case rel => exact ⟨k + 1, by omega, by go_num, HN', Z.out.trans (((below_alloc_ _ _).trans ((below_alloc_ _ _).mono (by simp))).mono Z.out.size |>.trans (B1.out.mono (by have := Z.out.size; simp; omega)))⟩
          case measure => simp [intOf]; omega
        · rw [decide_eq_false e] at C
          have HF : Kept (decide (cs.map (·.1) = us.map (·.1)) = false) := ⟨decide_eq_false fun h => e (by rw [h, hm'] at hm; injection hm with hm; exact hm.symm)⟩
          clear HN hm hm' hb hb' h1 h1'
          go_wp2_with (go_at_call 89; (with_reducible refine (C.out _).mono ?_); rintro e w1 ⟨rfl, b1⟩; have B1 := Lib.hid b1; clear b1)
          go_ret
          exact ⟨bool_of HF.out.symm, Z.out.trans (((below_alloc_ _ _).trans ((below_alloc_ _ _).mono (by simp))).mono Z.out.size |>.trans (B1.out.mono (by have := Z.out.size; simp; omega)))⟩
      · obtain rfl : k = n := by omega
        have HF : Kept (decide (cs.map (·.1) = us.map (·.1)) = true) := ⟨decide_eq_true (List.ext_getElem? fun j => by
          by_cases hj : j < k
          · exact HN.out j hj
          · rw [List.getElem?_eq_none (by simp; omega), List.getElem?_eq_none (by simp; omega)])⟩
        clear HN hb hb' h1 h1'
        go_wp2
        go_ret
        exact ⟨bool_of HF.out.symm, Z.out⟩
  · have i0 : ((n : Int) != (m : Int)) = true := by simp; omega
    have HF : Kept (decide (cs.map (·.1) = us.map (·.1)) = false) := ⟨decide_eq_false fun h => hnm (by have := congrArg List.length h; simp at this; omega)⟩
    clear hnm hb hb' h1 h1'
    go_enter Tryz.func90, Tryz.ntmps90
    go_wp2
    go_ret
    exact ⟨bool_of HF.out.symm, Below.refl _ _⟩
/-- Two parts with their cases, as they lie: the same? -/
def D.smp (y y' : D.Nv) (ws ws' : List (List Nat)) : Bool := decide (y.k = y'.k) && (decide (D.ns y.t = D.ns y'.t) && (Nm.sm y.n y'.n && decide (ws = ws')))
set_option maxHeartbeats 8000000 in
theorem samePart_any (y y' : D.Nv) (cs us : List (List Nat × Value)) (w : World) (hr : Rw 2 w y.A y.m (ccs cs)) (hs : Rw 2 w y'.A y'.m (ccs us)) (hb : D.B8 (cs.map (·.1))) (hb' : D.B8 (us.map (·.1))) (h1 : ∀ x ∈ cs, ∃ (A : Option Addr) (n c : Nat), x.2 = .slice A n c) (h1' : ∀ x ∈ us, ∃ (A : Option Addr) (n c : Nat), x.2 = .slice A n c) (hn : y.m ≤ 1000000) :
    Calls Tryz.prog 45 #[.agg (nS.v y), .agg (nS.v y')] w fun e w' => e = .returned (.bool (D.smp y y' (cs.map (·.1)) (us.map (·.1)))) ∧ Below w.heap.size w w' := by
  have CE := Lib.hid (fun W (hW : Below w.heap.size w W) => eqCases_any y.A y'.A y.m y'.m y.c y'.c cs us W (hr.on hW) (hs.on hW) hb hb' h1 h1' hn)
  unfold D.smp
  obtain ⟨bw, hbw⟩ : ∃ b, decide (cs.map (·.1) = us.map (·.1)) = b := ⟨_, rfl⟩
  rw [hbw] at CE ⊢
  have tt := txt_eq y.t y'.t
  obtain ⟨bt, hbt⟩ : ∃ b, decide (D.ns y.t = D.ns y'.t) = b := ⟨_, rfl⟩
  rw [hbt] at tt ⊢
  obtain ⟨bn, hbn⟩ : ∃ b, Nm.sm y.n y'.n = b := ⟨_, rfl⟩
  rw [hbn]
  have kk : ((y.k : Int) == (y'.k : Int)) = decide (y.k = y'.k) := by
    by_cases h : y.k = y'.k
    · simp [h]
    · have h2 : (y.k : Int) ≠ y'.k := by omega
      simp [h, h2]
  obtain ⟨bk, hbk⟩ : ∃ b, decide (y.k = y'.k) = b := ⟨_, rfl⟩
  rw [hbk] at kk ⊢
  have hw1 : Blk ((w.alloc (.cells (nS.v y) 116)).alloc (.cells (nS.v y') 116)) w.heap.size 116 (nS.v y) := (Blk.new _ _ _).alloc _
  have hw2 : Blk ((w.alloc (.cells (nS.v y) 116)).alloc (.cells (nS.v y') 116)) (w.heap.size + 1) 116 (nS.v y') := blk_new_ (by simp)
  have hb0 : Below w.heap.size w ((w.alloc (.cells (nS.v y) 116)).alloc (.cells (nS.v y') 116)) := ((Below.refl _ _).alloc (Nat.le_refl _) _).alloc (by simp) _
  obtain ⟨a0, a1, a2, a3⟩ := nf_blk hw1
  obtain ⟨c0, c1, c2, c3⟩ := nf_blk hw2
  simp only [Nat.zero_add] at a0 a1 a2 a3 c0 c1 c2 c3
  have B0 := Lib.hid hb0
  clear hw1 hw2 hb0 hbw hbt hbk hr hs hb hb' h1 h1'
  obtain ⟨k, t, nm, A, m, c⟩ := y
  obtain ⟨k', t', nm', A', m', c'⟩ := y'
  simp only at *
  cases bk
  · go_enter Tryz.func45, Tryz.ntmps45
    go_wp2_with (go_at_call 90; (with_reducible refine (CE.out _ B0.out).mono ?_); rintro e w1 ⟨rfl, b1⟩)
    go_ret
    exact ⟨rfl, B0.out⟩
  · cases bt
    · go_enter Tryz.func45, Tryz.ntmps45
      go_wp2_with (go_at_call 90; (with_reducible refine (CE.out _ B0.out).mono ?_); rintro e w1 ⟨rfl, b1⟩)
      go_ret
      exact ⟨rfl, B0.out⟩
    · cases bn
      · go_enter Tryz.func45, Tryz.ntmps45
        go_wp2_with (go_at_call 90; (with_reducible refine (CE.out _ B0.out).mono ?_); rintro e w1 ⟨rfl, b1⟩)
        go_ret
        exact ⟨rfl, B0.out⟩
      · go_enter Tryz.func45, Tryz.ntmps45
        go_wp2_with (go_at_call 90; (with_reducible refine (CE.out _ B0.out).mono ?_); rintro e w1 ⟨rfl, b1⟩; have B1 := Lib.hid b1; clear b1)
        go_ret
        exact ⟨rfl, B0.out.trans (B1.out.mono B0.out.size)⟩
end Go.Proofs.YtohhfcfnclafdaaGreatDoor
