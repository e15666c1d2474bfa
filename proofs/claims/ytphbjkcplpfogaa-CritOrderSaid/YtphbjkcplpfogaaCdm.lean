/-
  A tree with a node taken away: all that is said of a tree.
-/
import Derived.Test.YtphbjkcplpfogaaCmv
set_option linter.unusedVariables false
set_option linter.unusedSimpArgs false
set_option maxRecDepth 100000
namespace Go.Proofs.Ytphbjkcplpfogaa
open Go.RowKit
theorem del_lf {k : D.Ky} {a : Nat} {x : D.Ky} {v : Int} : (Cr.Tr.lf a x v).del k = none := rfl
/-- A store at the place of the node past which a key's bits lead last. -/
theorem drop_nd {w : World} {k : D.Ky} : ∀ {t : Tk} {p : Addr}, Nd w t → t.wf → t.bl.Nodup → t.bit < 200 → ∃ y s, (t.path k 200).getLast? = some y ∧ kid y (!Cr.Bits.bt k y.bit) = some s ∧ t.bit ≤ y.bit ∧ y.bit < 200 ∧ List.Sublist s.bl t.bl ∧
    (¬ t.bit < y.bit → t.del k = some s ∧ Nd w s) ∧
    (t.bit < y.bit → ∃ t', t.del k = some t' ∧ t'.ad = t.ad ∧ List.Sublist t'.bl t.bl ∧ Nd (w.setCell (plc k p (t.path k y.bit)) (.pointer (some ⟨s.ad, 0, none⟩))) t')
  | .lf _ _ _, p, _, _, _, h => by simp only [Cr.Tr.bit] at h; omega
  | .br a b l r, p, hN, hw, hn, h => by
    have h : b < 200 := h
    have hk := Cr.Tr.kids hw
    simp only [Cr.Tr.bl, List.nodup_cons, List.mem_append, not_or, List.nodup_append] at hn
    obtain ⟨⟨n1, n2⟩, nl, nr, nlr⟩ := hn
    have sl : List.Sublist l.bl (Cr.Tr.br a b l r).bl := (List.sublist_append_left _ _).trans (List.sublist_cons_self _ _)
    have sr : List.Sublist r.bl (Cr.Tr.br a b l r).bl := (List.sublist_append_right _ _).trans (List.sublist_cons_self _ _)
    by_cases hbt : Cr.Bits.bt k b = true
    · have hsd : D.sd k b = 1 := by unfold D.sd; rw [if_pos hbt]
      have hpath : ∀ d, b < d → (Cr.Tr.br a b l r).path k d = .br a b l r :: r.path k d := fun d hd => by simp only [Cr.Tr.path, if_pos hd, if_pos hbt]
      have hdel : (Cr.Tr.br a b l r).del k = match r.del k with | none => some l | some r' => some (.br a b l r') := by simp only [Cr.Tr.del, if_pos hbt]; cases r.del k <;> rfl
      by_cases hr : r.bit < 200
      · obtain ⟨y, s, e1, e2, e3, e4, e5, e6, e7⟩ := drop_nd (k := k) (p := ⟨a, 1 + D.sd k b, none⟩) hN.2.2 hw.2.2.2.2.2 nr hr
        have hby : b < y.bit := Nat.lt_of_lt_of_le hk.2 e3
        refine ⟨y, s, ?_, e2, Nat.le_of_lt hby, e4, e5.trans sr, fun c => absurd hby c, fun _ => ?_⟩
        · rw [hpath 200 h, List.getLast?_cons, e1]; rfl
        · rw [hpath _ hby, hdel]
          by_cases c : r.bit < y.bit
          · obtain ⟨t', f1, f2, f3, f4⟩ := e7 c
            have hin := plc_in (k := k) (d := y.bit) (p := ⟨a, 1 + D.sd k b, none⟩) c (by omega)
            rw [f1]
            refine ⟨_, rfl, rfl, List.Sublist.cons_cons _ (List.Sublist.append_left f3 _), ?_, nd_set hN.2.1 (fun e => nlr _ e _ hin rfl) _, f4⟩
            rw [f2]
            exact ⟨(Below.heap_setCell w _ _ a (fun e => n2 (by rw [e]; exact hin))).trans hN.1.out⟩
          · obtain ⟨f1, f2⟩ := e6 c
            rw [f1, path_out c]
            refine ⟨_, rfl, rfl, List.Sublist.cons_cons _ (List.Sublist.append_left e5 _), ?_⟩
            show Nd (w.setCell ⟨a, 1 + D.sd k b, none⟩ _) _
            rw [hsd]
            have hset := hN.1.put 2 (.pointer (some ⟨s.ad, 0, none⟩))
            rw [ndc_hi] at hset
            exact ⟨hset, nd_set hN.2.1 n1 _, nd_set f2 (fun e => n2 (e5.subset e)) _⟩
      · have hlf : ∃ a' x v, r = .lf a' x v := by
          cases r with
          | lf a' x v => exact ⟨_, _, _, rfl⟩
          | br a' b' l' r' => exact absurd hw.2.2.2.2.2.1 hr
        obtain ⟨a', x, v, rfl⟩ := hlf
        refine ⟨.br a b l (.lf a' x v), l, ?_, ?_, Nat.le_refl _, h, sl, fun _ => ⟨?_, hN.2.1⟩, fun c => absurd c (Nat.lt_irrefl _)⟩
        · rw [hpath 200 h]; rfl
        · show kid _ (!Cr.Bits.bt k b) = _
          rw [hbt]; rfl
        · rw [hdel]; rfl
    · have hbf : Cr.Bits.bt k b = false := by simpa using hbt
      have hsd : D.sd k b = 0 := by unfold D.sd; rw [if_neg hbt]
      have hpath : ∀ d, b < d → (Cr.Tr.br a b l r).path k d = .br a b l r :: l.path k d := fun d hd => by simp only [Cr.Tr.path, if_pos hd, if_neg hbt]
      have hdel : (Cr.Tr.br a b l r).del k = match l.del k with | none => some r | some l' => some (.br a b l' r) := by simp only [Cr.Tr.del, if_neg hbt]; cases l.del k <;> rfl
      by_cases hr : l.bit < 200
      · obtain ⟨y, s, e1, e2, e3, e4, e5, e6, e7⟩ := drop_nd (k := k) (p := ⟨a, 1 + D.sd k b, none⟩) hN.2.1 hw.2.2.2.2.1 nl hr
        have hby : b < y.bit := Nat.lt_of_lt_of_le hk.1 e3
        refine ⟨y, s, ?_, e2, Nat.le_of_lt hby, e4, e5.trans sl, fun c => absurd hby c, fun _ => ?_⟩
        · rw [hpath 200 h, List.getLast?_cons, e1]; rfl
        · rw [hpath _ hby, hdel]
          by_cases c : l.bit < y.bit
          · obtain ⟨t', f1, f2, f3, f4⟩ := e7 c
            have hin := plc_in (k := k) (d := y.bit) (p := ⟨a, 1 + D.sd k b, none⟩) c (by omega)
            rw [f1]
            refine ⟨_, rfl, rfl, List.Sublist.cons_cons _ (List.Sublist.append_right f3 _), ?_, f4, nd_set hN.2.2 (fun e => nlr _ hin _ e rfl) _⟩
            rw [f2]
            exact ⟨(Below.heap_setCell w _ _ a (fun e => n1 (by rw [e]; exact hin))).trans hN.1.out⟩
          · obtain ⟨f1, f2⟩ := e6 c
            rw [f1, path_out c]
            refine ⟨_, rfl, rfl, List.Sublist.cons_cons _ (List.Sublist.append_right e5 _), ?_⟩
            show Nd (w.setCell ⟨a, 1 + D.sd k b, none⟩ _) _
            rw [hsd]
            have hset := hN.1.put 1 (.pointer (some ⟨s.ad, 0, none⟩))
            rw [ndc_lo] at hset
            exact ⟨hset, nd_set f2 (fun e => n1 (e5.subset e)) _, nd_set hN.2.2 n2 _⟩
      · have hlf : ∃ a' x v, l = .lf a' x v := by
          cases l with
          | lf a' x v => exact ⟨_, _, _, rfl⟩
          | br a' b' l' r' => exact absurd hw.2.2.2.2.1.1 hr
        obtain ⟨a', x, v, rfl⟩ := hlf
        refine ⟨.br a b (.lf a' x v) r, r, ?_, ?_, Nat.le_refl _, h, sr, fun _ => ⟨?_, hN.2.2⟩, fun c => absurd c (Nat.lt_irrefl _)⟩
        · rw [hpath 200 h]; rfl
        · show kid _ (!Cr.Bits.bt k b) = _
          rw [hbf]; rfl
        · rw [hdel]; rfl
/-- The bit at which the last of some nodes parts, and what stands on its other side. -/
def lbt (l : List Tk) : Nat := match l.getLast? with
  | none => 0
  | some y => y.bit
def lft (k : D.Ky) (l : List Tk) : Option Addr := match l.getLast? with
  | none => none
  | some y => pt (kid y (!Cr.Bits.bt k y.bit))
theorem lbt_app (l : List Tk) (y : Tk) : lbt (l ++ [y]) = y.bit := by simp [lbt]
theorem lft_app (k : D.Ky) (l : List Tk) (y : Tk) : lft k (l ++ [y]) = pt (kid y (!Cr.Bits.bt k y.bit)) := by simp [lft]
theorem lbt_le {w : World} {g : Nat} {o : Option Tk} (h : TR w g o) {k : D.Ky} {l : List Tk} (hl : ∀ y ∈ l, y ∈ pth k 200 o) : lbt l ≤ 200 := by
  unfold lbt
  cases e : l.getLast? with
  | none => exact Nat.zero_le _
  | some y => exact Nat.le_of_lt (h.mem (hl y (List.mem_of_getLast? e))).2.2.1
/-- A tree without a key that is there. -/
theorem tr_del {W : World} {g : Nat} {t : Tk} {k : D.Ky} {n : Int} (hT : TR W g (some t)) (hk : (t.near k).hd.1 = k) (hB : Blk W g 79 #[.pointer (pt (some t)), .int .i64 n]) :
    TR (W.setCell (plc k ⟨g, 0, none⟩ (pth k (lbt (pth k 200 (some t))) (some t))) (.pointer (lft k (pth k 200 (some t))))) g (t.del k) ∧
    Blk (W.setCell (plc k ⟨g, 0, none⟩ (pth k (lbt (pth k 200 (some t))) (some t))) (.pointer (lft k (pth k 200 (some t))))) g 79 #[.pointer (pt (t.del k)), .int .i64 n] ∧
    Cr.Tr.lso (t.del k) = Cr.del k t.ls ∧ ∀ q ∈ blo (t.del k), q ∈ t.bl := by
  have hw := hT.wf t rfl
  have hg := hT.out t rfl
  have hN := hT.nd t rfl
  have hnd := hT.ndp t rfl
  obtain ⟨hls, hwf⟩ := Cr.Tr.ls_del hw hk
  have hlen : (Cr.Tr.lso (t.del k)).length ≤ 1000 := by
    rw [hls]
    exact Nat.le_trans (List.length_filter_le _ _) hT.sz
  by_cases hb : t.bit < 200
  · obtain ⟨y, s, e1, e2, e3, e4, e5, e6, e7⟩ := drop_nd (k := k) (p := ⟨g, 0, none⟩) hN hw hnd hb
    have el : lbt (pth k 200 (some t)) = y.bit := by unfold lbt pth; rw [e1]
    have ef : lft k (pth k 200 (some t)) = some ⟨s.ad, 0, none⟩ := by unfold lft pth; rw [e1]; show pt (kid y (!Cr.Bits.bt k y.bit)) = _; rw [e2]; rfl
    rw [el, ef]
    by_cases c : t.bit < y.bit
    · obtain ⟨t', f1, f2, f3, f4⟩ := e7 c
      have hin := plc_in (k := k) (d := y.bit) (p := ⟨g, 0, none⟩) c (by omega)
      have hB2 : Blk (W.setCell (plc k ⟨g, 0, none⟩ (pth k y.bit (some t))) (.pointer (some ⟨s.ad, 0, none⟩))) g 79 #[.pointer (pt (some t')), .int .i64 n] := by
        have : pt (some t') = pt (some t) := by simp only [pt, Option.map_some, f2]
        rw [this]
        exact ⟨(Below.heap_setCell W _ _ g (fun e => hg (by rw [e]; exact hin))).trans hB.out⟩
      rw [f1] at hls hwf hlen ⊢
      refine ⟨⟨⟨n, hB2⟩, fun u e => ?_, fun u e => hwf u e, fun u e => ?_, hlen⟩, hB2, hls, fun q hq => f3.subset hq⟩
      · injection e with e; subst e; exact f4
      · injection e with e; subst e; exact hnd.sublist f3
    · obtain ⟨f1, f2⟩ := e6 c
      have hp : pth k y.bit (some t) = [] := path_out c
      rw [hp]
      rw [f1] at hls hwf hlen ⊢
      have hB2 := hB.put 0 (.pointer (some ⟨s.ad, 0, none⟩))
      refine ⟨⟨⟨n, hB2⟩, fun u e => ?_, fun u e => hwf u e, fun u e => ?_, hlen⟩, hB2, hls, fun q hq => e5.subset hq⟩
      · injection e with e; subst e; exact nd_set f2 (fun e => hg (e5.subset e)) _
      · injection e with e; subst e; exact hnd.sublist e5
  · have hlf : ∃ a' x v, t = .lf a' x v := by
      cases t with
      | lf a' x v => exact ⟨_, _, _, rfl⟩
      | br a' b' l' r' => exact absurd hw.1 hb
    obtain ⟨a', x, v, rfl⟩ := hlf
    have hB2 := hB.put 0 (.pointer none)
    exact ⟨⟨⟨n, hB2⟩, fun u e => (nomatch e), fun u e => (nomatch e), fun u e => (nomatch e), hlen⟩, hB2, hls, fun q hq => (nomatch hq)⟩
end Go.Proofs.Ytphbjkcplpfogaa
