/-
  A tree with a node put in, and with another number by a key: all that is said of a tree.
-/
import Derived.Test.YtkhjnfplcaffnaaDi
set_option linter.unusedVariables false
set_option linter.unusedSimpArgs false
set_option maxRecDepth 100000
namespace Go.Proofs.Ytkhjnfplcaffnaa
open Go.RowKit

theorem plc_last {k : D.Ky} {p : Addr} {l : List Tk} : (l = [] ∧ plc k p l = p) ∨ ∃ y ∈ l, plc k p l = ⟨y.ad, 1 + D.sd k y.bit, none⟩ := by
  rcases List.eq_nil_or_concat l with rfl | ⟨l', y, rfl⟩
  · exact .inl ⟨rfl, rfl⟩
  · refine .inr ⟨y, by simp, ?_⟩
    rw [List.concat_eq_append, plc_app]
/-- Where a path ends may be stored to. -/
theorem TR.free {w : World} {g : Nat} {o : Option Tk} (h : TR w g o) {k : D.Ky} {d : Nat} : w.frozen? (plc k ⟨g, 0, none⟩ (pth k d o)) = false := by
  rcases plc_last (k := k) (p := ⟨g, 0, none⟩) (l := pth k d o) with ⟨_, e⟩ | ⟨y, hy, e⟩
  · rw [e]
    obtain ⟨n, hB⟩ := h.blk
    exact hB.f 0
  · rw [e]
    obtain ⟨hN, _, _, t, _, hs⟩ := h.mem hy
    obtain ⟨cs, hB⟩ := hN.lt y.ad y.ad_mem
    exact hB.f _
theorem plc_blk {w : World} {g : Nat} {o : Option Tk} (h : TR w g o) {k : D.Ky} {d : Nat} : (plc k ⟨g, 0, none⟩ (pth k d o)).block ∈ g :: blo o := by
  rcases plc_last (k := k) (p := ⟨g, 0, none⟩) (l := pth k d o) with ⟨_, e⟩ | ⟨y, hy, e⟩
  · rw [e]; simp
  · rw [e]
    obtain ⟨hN, _, _, t, rfl, hs⟩ := h.mem hy
    exact List.mem_cons_of_mem _ (hs _ y.ad_mem)
theorem ls_ins {k : D.Ky} {v : Int} {d a c : Nat} {t : Tk} (hw : t.wf) (hn : Cr.has k t.ls = false) (hd : Cr.par (t.near k).hd.1 k = d) (hl : d < 200) : (t.ins k v d a c).ls = Cr.put k v t.ls := by
  have hu : Cr.Up t.ls := Cr.Tr.sorted hw
  refine Cr.Up.eq (Cr.Tr.sorted (Cr.Tr.ins_wf hw hd hl)) (Cr.put_up hu) fun x => ?_
  rw [Cr.Tr.ins_mem, Cr.put_mem hu]
  constructor
  · rintro (h | h)
    · exact .inl h
    · refine .inr ⟨h, fun e => ?_⟩
      have : Cr.has k t.ls = true := Cr.has_iff.2 ⟨x.2, by rw [← e]; exact h⟩
      rw [hn] at this; cases this
  · rintro (h | ⟨h, _⟩)
    · exact .inl h
    · exact .inr h
theorem near_ne {k : D.Ky} {t : Tk} (hw : t.wf) (hn : Cr.has k t.ls = false) : Cr.par (t.near k).hd.1 k < 200 := by
  rw [Cr.par_lt]
  intro e
  have := Cr.has_iff.2 ((Cr.Tr.near_is hw).1 e)
  rw [hn] at this; cases this
theorem tr_ins {W : World} {g : Nat} {t : Tk} {k : D.Ky} {v n : Int} {d a c : Nat} (hT : TR W g (some t)) (hn : Cr.has k t.ls = false) (hd : Cr.par (t.near k).hd.1 k = d) (hB : Blk W g 75 #[.pointer (pt (some t)), .int .i64 n])
    (ha : a ∉ t.bl) (hc : c ∉ t.bl) (hac : a ≠ c) (hA : Blk W a nT (ndc 200 none none (k, v))) (hC : Blk W c nT (newc k d a (t.sub k d).ad)) (hz : t.ls.length < 1000) :
    TR (W.setCell (plc k ⟨g, 0, none⟩ (pth k d (some t))) (.pointer (some ⟨c, 0, none⟩))) g (some (t.ins k v d a c)) ∧
    Blk (W.setCell (plc k ⟨g, 0, none⟩ (pth k d (some t))) (.pointer (some ⟨c, 0, none⟩))) g 75 #[.pointer (pt (some (t.ins k v d a c))), .int .i64 n] := by
  have hw := hT.wf t rfl
  have hl : d < 200 := by rw [← hd]; exact near_ne hw hn
  have hg := hT.out t rfl
  have hN := hT.nd t rfl
  have hls := ls_ins (v := v) (a := a) (c := c) hw hn hd hl
  have key : Nd (W.setCell (plc k ⟨g, 0, none⟩ (pth k d (some t))) (.pointer (some ⟨c, 0, none⟩))) (t.ins k v d a c) ∧
      Blk (W.setCell (plc k ⟨g, 0, none⟩ (pth k d (some t))) (.pointer (some ⟨c, 0, none⟩))) g 75 #[.pointer (pt (some (t.ins k v d a c))), .int .i64 n] := by
    by_cases hb : t.bit < d
    · have hin := plc_in (k := k) (d := d) (p := ⟨g, 0, none⟩) hb (by omega)
      refine ⟨ins_nd (by omega) hN hw (hT.ndp t rfl) hb ha hc hA hC, ?_⟩
      have : pt (some (t.ins k v d a c)) = pt (some t) := by simp only [pt, Option.map_some, ins_ad hb (by omega)]
      rw [this]
      exact ⟨(Below.heap_setCell W _ _ g (fun e => hg (by rw [e]; exact hin))).trans hB.out⟩
    · have hp : pth k d (some t) = [] := path_out hb
      rw [hp, ins_mk hb]
      rw [sub_self hb] at hC
      show Nd (W.setCell ⟨g, 0, none⟩ _) _ ∧ Blk (W.setCell ⟨g, 0, none⟩ _) g _ _
      refine ⟨nd_mk (nd_set hN hg _) ⟨(Below.heap_setCell W _ _ a (blk_ne hA hB (by decide))).trans hA.out⟩ ⟨(Below.heap_setCell W _ _ c (blk_ne hC hB (by decide))).trans hC.out⟩, ?_⟩
      have := hB.put 0 (.pointer (some ⟨c, 0, none⟩))
      have e : (Cr.Tr.mk k v d a c t).ad = c := by unfold Cr.Tr.mk; split <;> rfl
      simp only [pt, Option.map_some, e]
      exact this
  refine ⟨⟨⟨n, key.2⟩, fun u e => ?_, fun u e => ?_, fun u e => ?_, ?_⟩, key.2⟩
  · injection e with e; subst e; exact key.1
  · injection e with e; subst e; exact Cr.Tr.ins_wf hw hd hl
  · injection e with e; subst e
    refine (ins_bl t).nodup_iff.2 (List.nodup_cons.2 ⟨?_, List.nodup_cons.2 ⟨ha, hT.ndp t rfl⟩⟩)
    simp only [List.mem_cons, not_or]
    exact ⟨fun e => hac e.symm, hc⟩
  · show (t.ins k v d a c).ls.length ≤ 1000
    rw [hls, Cr.put_new (Cr.Tr.sorted hw) hn]; omega
theorem tr_upd {W : World} {g : Nat} {t : Tk} {k : D.Ky} {u n v : Int} {a : Nat} (hT : TR W g (some t)) (hk : t.near k = .lf a k v) (hB : Blk W g 75 #[.pointer (pt (some t)), .int .i64 n]) :
    TR (W.setCell ⟨a, 28, none⟩ (.int .i64 u)) g (some (t.upd k u)) ∧ Blk (W.setCell ⟨a, 28, none⟩ (.int .i64 u)) g 75 #[.pointer (pt (some (t.upd k u))), .int .i64 n] ∧ (t.upd k u).ls = Cr.put k u t.ls ∧ (t.upd k u).bl = t.bl ∧ a ∈ t.bl := by
  have hw := hT.wf t rfl
  obtain ⟨h1, h2, h3, h4⟩ := upd_nd (u := u) (hT.nd t rfl) (hT.ndp t rfl) hk
  have hhas : Cr.has k t.ls = true := by
    have := Cr.Tr.near_mem k t
    rw [hk] at this
    exact Cr.has_iff.2 ⟨v, this⟩
  have hls : (t.upd k u).ls = Cr.put k u t.ls := by rw [Cr.Tr.upd_ls hw, Cr.put_old (Cr.Tr.sorted hw) hhas]
  have hg := hT.out t rfl
  have hbk : Blk (W.setCell ⟨a, 28, none⟩ (.int .i64 u)) g 75 #[.pointer (pt (some (t.upd k u))), .int .i64 n] := by
    have : pt (some (t.upd k u)) = pt (some t) := by simp only [pt, Option.map_some, h2]
    rw [this]
    exact ⟨(Below.heap_setCell W _ _ g (fun e => hg (by rw [e]; exact h4))).trans hB.out⟩
  refine ⟨⟨⟨n, hbk⟩, fun x e => ?_, fun x e => ?_, fun x e => ?_, ?_⟩, hbk, hls, h3, h4⟩
  · injection e with e; subst e; exact h1
  · injection e with e; subst e; exact Cr.Tr.upd_wf hw
  · injection e with e; subst e; rw [h3]; exact hT.ndp t rfl
  · show (t.upd k u).ls.length ≤ 1000
    rw [hls, Cr.put_old (Cr.Tr.sorted hw) hhas, List.length_map]; exact hT.sz
/-- The first one put in. -/
theorem tr_one {W : World} {g a : Nat} {k : D.Ky} {v n : Int} (hA : Blk W a nT (ndc 200 none none (k, v))) (hB : Blk W g 75 #[.pointer none, .int .i64 n]) :
    TR (W.setCell ⟨g, 0, none⟩ (.pointer (some ⟨a, 0, none⟩))) g (some (.lf a k v)) ∧ Blk (W.setCell ⟨g, 0, none⟩ (.pointer (some ⟨a, 0, none⟩))) g 75 #[.pointer (pt (some (.lf a k v))), .int .i64 n] := by
  have hb := hB.put 0 (.pointer (some ⟨a, 0, none⟩))
  refine ⟨⟨⟨n, hb⟩, fun x e => ?_, fun x e => ?_, fun x e => ?_, by simp [Cr.Tr.lso, Cr.Tr.ls]⟩, hb⟩
  · injection e with e; subst e
    exact ⟨(Below.heap_setCell W _ _ a (blk_ne hA hB (by decide))).trans hA.out⟩
  · injection e with e; subst e; exact trivial
  · injection e with e; subst e; simp [Cr.Tr.bl]
/-- A tree whose count alone has turned. -/
theorem TR.count {W : World} {g : Nat} {o : Option Tk} (h : TR W g o) {n : Int} (hB : Blk W g 75 #[.pointer (pt o), .int .i64 n]) (m : Int) :
    TR (W.setCell ⟨g, 1, none⟩ (.int .i64 m)) g o ∧ Blk (W.setCell ⟨g, 1, none⟩ (.int .i64 m)) g 75 #[.pointer (pt o), .int .i64 m] := by
  have hb := hB.put 1 (.int .i64 m)
  exact ⟨⟨⟨m, hb⟩, fun t e => nd_set (h.nd t e) (h.out t e) _, h.wf, h.ndp, h.sz⟩, hb⟩
/-- A tree that is apart from some turned blocks. -/
theorem TR.ov {w W : World} {g : Nat} {o : Option Tk} {n0 : Nat} {X : List Nat} (h : TR w g o) (hO : Ov n0 X w W) (hg : ∀ q ∈ g :: blo o, q < n0 ∧ q ∉ X) : TR W g o :=
  ⟨let ⟨n, hB⟩ := h.blk; ⟨n, ⟨(hO.block g (hg g (by simp)).1 (hg g (by simp)).2).trans hB.out⟩⟩, fun t e => hO.nd (h.nd t e) fun q hq => hg q (by subst e; simp [blo, hq]), h.wf, h.ndp, h.sz⟩
theorem TR.all_lt {w : World} {g : Nat} {o : Option Tk} (h : TR w g o) : ∀ q ∈ g :: blo o, q < w.heap.size := by
  intro q hq
  rcases List.mem_cons.1 hq with rfl | hq
  · exact h.lt
  · cases o with
    | none => cases hq
    | some t => obtain ⟨cs, hB⟩ := (h.nd t rfl).lt q hq; exact hB.lt
end Go.Proofs.Ytkhjnfplcaffnaa
