/-
  Trees in memory, changed: a node put in where bits lead, another number by a key.
-/
import Derived.Test.YtnggojnfppehpaaChd
set_option linter.unusedVariables false
set_option linter.unusedSimpArgs false
set_option maxRecDepth 100000
namespace Go.Proofs.Ytnggojnfppehpaa
open Go.RowKit

abbrev nT : TypeId := 91
theorem ndc_lo (b : Int) (p q r : Option Addr) (e : D.Ky × Int) : (ndc b p q e).setIfInBounds 1 (.pointer r) = ndc b r q e := by simp [ndc, ndl]
theorem ndc_hi (b : Int) (p q r : Option Addr) (e : D.Ky × Int) : (ndc b p q e).setIfInBounds 2 (.pointer r) = ndc b p r e := by simp [ndc, ndl]
theorem ndc_thing (b : Int) (p q : Option Addr) (x : D.Ky) (u v : Int) : (ndc b p q (x, u)).setIfInBounds 28 (.int .i64 v) = ndc b p q (x, v) := by
  have hl := x.len
  unfold ndc
  rw [List.setIfInBounds_toArray]
  congr 1
  simp only [ndl, lcells, List.set_cons_succ]
  rw [List.set_append_right _ _ (by rw [bys_len, hl]; omega)]
  simp [bys_len, hl]
theorem nd_set {w : World} {t : Tk} (h : Nd w t) {a : Addr} (ha : a.block ∉ t.bl) (v : Value) : Nd (w.setCell a v) t := h.kept fun g hg => Below.heap_setCell w a v g (fun e => ha (by rw [← e]; exact hg))
/-- Where a path within a tree ends: in one of its nodes. -/
theorem plc_in {k : D.Ky} {d : Nat} : ∀ {t : Tk} {p : Addr}, t.bit < d → d ≤ 200 → (plc k p (t.path k d)).block ∈ t.bl
  | .lf _ _ _, p, h, hd => by simp only [Cr.Tr.bit] at h; omega
  | .br a b l r, p, h, hd => by
    have h : b < d := h
    simp only [Cr.Tr.path, if_pos h]
    have key : ∀ u : Tk, (∀ q ∈ u.bl, q ∈ (Cr.Tr.br a b l r).bl) → (u.bit < d → ∀ p, (plc k p (u.path k d)).block ∈ u.bl) → (plc k p (Cr.Tr.br a b l r :: u.path k d)).block ∈ (Cr.Tr.br a b l r).bl := by
      intro u hu hi
      by_cases c : u.bit < d
      · exact hu _ (hi c _)
      · rw [path_out c]
        show (Cr.Tr.br a b l r).ad ∈ _
        exact Cr.Tr.ad_mem _
    split
    · exact key r (fun q hq => by simp [Cr.Tr.bl, hq]) (fun c p => plc_in c hd)
    · exact key l (fun q hq => by simp [Cr.Tr.bl, hq]) (fun c p => plc_in c hd)
theorem sub_self {k : D.Ky} {d : Nat} : ∀ {t : Tk}, ¬ t.bit < d → t.sub k d = t
  | .lf _ _ _, _ => rfl
  | .br a b l r, h => by
    have h : ¬ b < d := h
    simp only [Cr.Tr.sub, if_neg h]
theorem ins_mk {k : D.Ky} {v : Int} {d a c : Nat} : ∀ {t : Tk}, ¬ t.bit < d → t.ins k v d a c = Cr.Tr.mk k v d a c t
  | .lf _ _ _, _ => rfl
  | .br a' b l r, h => by
    have h : ¬ b < d := h
    rw [Cr.Tr.ins_br, if_neg h]
theorem ins_ad {k : D.Ky} {v : Int} {d a c : Nat} : ∀ {t : Tk}, t.bit < d → d ≤ 200 → (t.ins k v d a c).ad = t.ad
  | .lf _ _ _, h, hd => by simp only [Cr.Tr.bit] at h; omega
  | .br a' b l r, h, hd => by
    have h : b < d := h
    rw [Cr.Tr.ins_br, if_pos h]
    split <;> rfl
/-- The new inner node. -/
def newc (k : D.Ky) (d a s : Nat) : Array Value := if Cr.Bits.bt k d then ndc d (some ⟨s, 0, none⟩) (some ⟨a, 0, none⟩) (D.zK, 0) else ndc d (some ⟨a, 0, none⟩) (some ⟨s, 0, none⟩) (D.zK, 0)
theorem nd_mk {w : World} {k : D.Ky} {v : Int} {d a c : Nat} {t : Tk} (h : Nd w t) (ha : Blk w a nT (ndc 200 none none (k, v))) (hc : Blk w c nT (newc k d a t.ad)) : Nd w (Cr.Tr.mk k v d a c t) := by
  unfold Cr.Tr.mk
  unfold newc at hc
  by_cases hb : Cr.Bits.bt k d = true
  · rw [if_pos hb] at hc ⊢; exact ⟨hc, h, ha⟩
  · rw [if_neg hb] at hc ⊢; exact ⟨hc, ha, h⟩
theorem ins_nd {w : World} {k : D.Ky} {v : Int} {d a c : Nat} (hd : d ≤ 200) : ∀ {t : Tk} {p : Addr}, Nd w t → t.wf → t.bl.Nodup → t.bit < d → a ∉ t.bl → c ∉ t.bl → Blk w a nT (ndc 200 none none (k, v)) → Blk w c nT (newc k d a (t.sub k d).ad) →
    Nd (w.setCell (plc k p (t.path k d)) (.pointer (some ⟨c, 0, none⟩))) (t.ins k v d a c)
  | .lf _ _ _, p, _, _, _, h, _, _, _, _ => by simp only [Cr.Tr.bit] at h; omega
  | .br a' b l r, p, hN, hw, hn, h, ha, hc, hA, hC => by
    have h : b < d := h
    have hb2 : b < 200 := hw.1
    simp only [Cr.Tr.bl, List.nodup_cons, List.mem_append, not_or, List.nodup_append] at hn
    obtain ⟨⟨n1, n2⟩, nl, nr, nlr⟩ := hn
    simp only [Cr.Tr.bl, List.mem_cons, List.mem_append, not_or] at ha hc
    rw [Cr.Tr.ins_br, if_pos h]
    by_cases hbt : Cr.Bits.bt k b = true
    · have hsd : D.sd k b = 1 := by unfold D.sd; rw [if_pos hbt]
      rw [if_pos hbt]
      simp only [Cr.Tr.path, Cr.Tr.sub, if_pos h, if_pos hbt] at hC ⊢
      by_cases hr : r.bit < d
      · have hin := plc_in (k := k) (d := d) (p := ⟨a', 1 + D.sd k b, none⟩) hr hd
        have hI := ins_nd hd (p := ⟨a', 1 + D.sd k b, none⟩) hN.2.2 hw.2.2.2.2.2 nr hr ha.2.2 hc.2.2 hA hC
        refine ⟨?_, nd_set hN.2.1 (fun e => nlr _ e _ hin rfl) _, hI⟩
        rw [ins_ad hr hd]
        exact ⟨(Below.heap_setCell w _ _ a' (fun e => n2 (by rw [e]; exact hin))).trans hN.1.out⟩
      · rw [path_out hr, ins_mk hr]
        rw [sub_self hr] at hC
        show Nd (w.setCell ⟨a', 1 + D.sd k b, none⟩ _) _
        rw [hsd]
        have hset := hN.1.put 2 (.pointer (some ⟨c, 0, none⟩))
        rw [ndc_hi] at hset
        refine ⟨?_, nd_set hN.2.1 n1 _, nd_mk (nd_set hN.2.2 n2 _) ⟨(Below.heap_setCell w _ _ a ha.1).trans hA.out⟩ ⟨(Below.heap_setCell w _ _ c hc.1).trans hC.out⟩⟩
        have : (Cr.Tr.mk k v d a c r).ad = c := by unfold Cr.Tr.mk; split <;> rfl
        rw [this]; exact hset
    · have hsd : D.sd k b = 0 := by unfold D.sd; rw [if_neg hbt]
      rw [if_neg hbt]
      simp only [Cr.Tr.path, Cr.Tr.sub, if_pos h, if_neg hbt] at hC ⊢
      by_cases hr : l.bit < d
      · have hin := plc_in (k := k) (d := d) (p := ⟨a', 1 + D.sd k b, none⟩) hr hd
        have hI := ins_nd hd (p := ⟨a', 1 + D.sd k b, none⟩) hN.2.1 hw.2.2.2.2.1 nl hr ha.2.1 hc.2.1 hA hC
        refine ⟨?_, hI, nd_set hN.2.2 (fun e => nlr _ hin _ e rfl) _⟩
        rw [ins_ad hr hd]
        exact ⟨(Below.heap_setCell w _ _ a' (fun e => n1 (by rw [e]; exact hin))).trans hN.1.out⟩
      · rw [path_out hr, ins_mk hr]
        rw [sub_self hr] at hC
        show Nd (w.setCell ⟨a', 1 + D.sd k b, none⟩ _) _
        rw [hsd]
        have hset := hN.1.put 1 (.pointer (some ⟨c, 0, none⟩))
        rw [ndc_lo] at hset
        refine ⟨?_, nd_mk (nd_set hN.2.1 n1 _) ⟨(Below.heap_setCell w _ _ a ha.1).trans hA.out⟩ ⟨(Below.heap_setCell w _ _ c hc.1).trans hC.out⟩, nd_set hN.2.2 n2 _⟩
        have : (Cr.Tr.mk k v d a c l).ad = c := by unfold Cr.Tr.mk; split <;> rfl
        rw [this]; exact hset
theorem mk_bl {k : D.Ky} {v : Int} {d a c : Nat} (t : Tk) : (Cr.Tr.mk k v d a c t).bl.Perm (c :: a :: t.bl) := by
  unfold Cr.Tr.mk
  split
  · simp only [Cr.Tr.bl]; exact List.Perm.cons _ (List.perm_append_comm)
  · exact List.Perm.refl _
theorem perm_mid {x : List Nat} {c a : Nat} {l r : List Nat} (h : r.Perm (c :: a :: x)) : (l ++ r).Perm (c :: a :: (l ++ x)) := by
  refine (List.Perm.append_left l h).trans ?_
  refine (List.perm_middle).trans (List.Perm.cons _ ?_)
  exact List.perm_middle
theorem ins_bl {k : D.Ky} {v : Int} {d a c : Nat} : ∀ t : Tk, (t.ins k v d a c).bl.Perm (c :: a :: t.bl)
  | .lf a' x u => mk_bl _
  | .br a' b l r => by
    rw [Cr.Tr.ins_br]
    have sw : ∀ {m x : List Nat}, m.Perm (c :: a :: x) → (a' :: m).Perm (c :: a :: a' :: x) := fun h => (List.Perm.cons _ h).trans ((List.Perm.swap _ _ _).trans (List.Perm.cons _ (List.Perm.swap _ _ _)))
    split
    · split
      · exact sw (perm_mid (ins_bl r))
      · simp only [Cr.Tr.bl]
        exact sw ((List.Perm.append_right r.bl (ins_bl l)).trans (List.Perm.refl _))
    · exact mk_bl _
def blo (o : Option Tk) : List Nat := match o with | none => [] | some t => t.bl
/-- Another number by a key, in memory. -/
theorem upd_nd {w : World} {k : D.Ky} {u : Int} {a : Nat} {v : Int} : ∀ {t : Tk}, Nd w t → t.bl.Nodup → t.near k = .lf a k v → Nd (w.setCell ⟨a, 28, none⟩ (.int .i64 u)) (t.upd k u) ∧ (t.upd k u).ad = t.ad ∧ (t.upd k u).bl = t.bl ∧ a ∈ t.bl
  | .lf a' x y, hN, _, hn => by
    simp only [Cr.Tr.near, Cr.Tr.lf.injEq] at hn
    obtain ⟨rfl, rfl, rfl⟩ := hn
    have := hN.put 28 (.int .i64 u)
    rw [ndc_thing] at this
    refine ⟨?_, rfl, rfl, by simp [Cr.Tr.bl]⟩
    simp only [Cr.Tr.upd, if_true]
    exact this
  | .br a' b l r, hN, hn, hk => by
    simp only [Cr.Tr.bl, List.nodup_cons, List.mem_append, not_or, List.nodup_append] at hn
    obtain ⟨⟨n1, n2⟩, nl, nr, nlr⟩ := hn
    simp only [Cr.Tr.near] at hk
    simp only [Cr.Tr.upd]
    by_cases hbt : Cr.Bits.bt k b = true
    · rw [if_pos hbt] at hk ⊢
      obtain ⟨h1, h2, h3, h4⟩ := upd_nd (u := u) hN.2.2 nr hk
      refine ⟨⟨?_, nd_set hN.2.1 (fun e => nlr _ e _ h4 rfl) _, h1⟩, rfl, by simp only [Cr.Tr.bl, h3], by simp [Cr.Tr.bl, h4]⟩
      rw [h2]
      exact ⟨(Below.heap_setCell w _ _ a' (fun e => n2 (by rw [e]; exact h4))).trans hN.1.out⟩
    · rw [if_neg hbt] at hk ⊢
      obtain ⟨h1, h2, h3, h4⟩ := upd_nd (u := u) hN.2.1 nl hk
      refine ⟨⟨?_, h1, nd_set hN.2.2 (fun e => nlr _ h4 _ e rfl) _⟩, rfl, by simp only [Cr.Tr.bl, h3], by simp [Cr.Tr.bl, h4]⟩
      rw [h2]
      exact ⟨(Below.heap_setCell w _ _ a' (fun e => n1 (by rw [e]; exact h4))).trans hN.1.out⟩
end Go.Proofs.Ytnggojnfppehpaa
