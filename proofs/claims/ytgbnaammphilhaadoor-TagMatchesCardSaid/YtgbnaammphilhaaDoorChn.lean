/-
  The program's Chain.
-/
import Derived.Test.YtgbnaammphilhaaDoorUpw
set_option linter.unusedVariables false
set_option linter.unusedSimpArgs false
namespace Go.Proofs.YtgbnaammphilhaaDoor
open Go.RowKit Go.Shelf
attribute [local go_sem] Oper.semAt_some
attribute [local go_sem ↓] Go.wp_at_zero Go.wp_at_succ ld_a ld_n st_a st_n eq_a eq_n ne_a ne_n bsl_n lv_a lv_n lp_3 lp_4
attribute [local go_sem] run_ld_a run_ld_n run_sw_a run_sw_n run_eq_a run_eq_n run_ne_a run_ne_n run_bsl1_n run_lv_a run_lv_n st_z ne_z eq_z rd_new rd_old rd_drew rd_drewN rd_set tn_new tn_old tn_drew tn_drewN setRow_alloc run_lp_3 run_lp_4

set_option maxRecDepth 100000 in
/-- An append of one tag leaves the variables of tags. -/
theorem napp_kp (w : World) {base : Nat} {A : Option Addr} {n c g' d : Nat} {l : List D.Tg} {x : D.Tg} (ty : TypeId) (ho : NOwn base 29 w A n c l) (hnil : n = 0 → A = none) (hr : NRow w (some ⟨g', 0, none⟩) 1 [x]) (h63 : n + 1 ≤ 1000000) :
    ∃ A' c' w', (Builtin.append_ #[46, 46] ty #[.slice A n c, .slice (some ⟨g', 0, none⟩) 1 d]).run Tryd.prog w = .ok (.slice A' (n + 1) c') w' ∧
      NOwn base 29 w' A' (n + 1) c' (l ++ [x]) ∧ w.grownBy w' (Value.slice A n c).ownBlock ∧ KpT w w' := by
  obtain ⟨A', c', w', hrun, h2, h3, h4⟩ := run_napp w ty_n ty ho hr h63 (d := d)
  refine ⟨A', c', w', hrun, h2, h3, ?_⟩
  rcases ho.row.2 with ⟨e, h0⟩ | ⟨g, cap, cur, e, hbg, hg, hnc, hcm, hcs, htake⟩
  · rw [e] at h3
    exact fun b cs hb _ => h3.block b (Array.getElem?_eq_some_iff.1 hb).1 (by simp [Value.ownBlock])
  · injection e with e1 e2 e3
    subst e1 e3
    by_cases hroom : n + 1 ≤ c
    · intro b cs hb hs
      by_cases e : b = g
      · subst e
        rw [hg] at hb
        injection hb with hb
        injection hb with hb _
        subst hb
        have : c = 1 := by omega
        have h0 : n = 0 := by omega
        have := hnil h0
        cases this
      · exact h3.block b (Array.getElem?_eq_some_iff.1 hb).1 (by simp [Value.ownBlock]; exact e)
    · obtain ⟨i, hi, hz0, hz1, hz2⟩ := info_parts nm_info_n
      have hl : (ncs [x]).length = 1 * i.size := by rw [hz1, ncs_len]; rfl
      have hc : ∀ j u, (ncs [x])[j]? = some u → w.cell? ((⟨g', 0, none⟩ : Addr).add j) = some u := by
        intro j u hu
        obtain ⟨y, hy, hb⟩ := ncs_sub hu
        have hj := (List.getElem?_eq_some_iff.1 hu).1
        obtain ⟨ad', e', _, hc⟩ := hr.to (by omega)
        injection e' with e'
        subst e'
        have := hc _ y hy _ u hb
        rwa [add_of_add, show j / 10 * 10 + j % 10 = j by omega] at this
      have holds : ∀ j u, (ncs l)[j]? = some u → w.cell? ((⟨g, 0, none⟩ : Addr).add j) = some u := ho.row.cells (g := g) rfl
      have hr2 := run_append_grow (P := Tryd.prog) w 46 ty 29 i _ Tryd.underlying46 hi hz0 ⟨g, 0, none⟩ n c (ncs l) (by rw [hz1]; exact ho.row.1) holds ⟨g', 0, none⟩ 1 d (ncs [x]) hl hc (by omega) (by omega) (growslice_fits (by omega) (by rw [hz2]; omega))
      have e := hrun.symm.trans hr2
      injection e with _ e
      subst e
      exact fun b cs hb _ => Below.heap_alloc w.drew _ b (Array.getElem?_eq_some_iff.1 hb).1
theorem nappIn {F : Fence} {nF : Nat} (w : World) {ops : Array Oper} {rest : List Oper} {o : Oper} {a : Act} {Q : Exit → Act → World → Prop} (hgd : o.guard = none) (s x : Operand)
    (hop : o.op = .call { callee := .builtin .append, args := #[s, x], argTypes := #[46, 46] })
    {base : Nat} {A : Option Addr} {n c g' d : Nat} {l : List D.Tg} {y : D.Tg} (hs : a.eval s = .slice A n c) (ho : NOwn base 29 w A n c l) (hnil : n = 0 → A = none) (hx : a.eval x = .slice (some ⟨g', 0, none⟩) 1 d) (hr : NRow w (some ⟨g', 0, none⟩) 1 [y]) (h63 : n + 1 ≤ 1000000)
    (h : ∀ A' c' w', NOwn base 29 w' A' (n + 1) c' (l ++ [y]) → w.grownBy w' (Value.slice A n c).ownBlock → KpT w w' → wpListIn F nF Tryd.prog ops Q rest (a.put o.dst (.slice A' (n + 1) c')) w') : wpListIn F nF Tryd.prog ops Q (o :: rest) a w := by
  obtain ⟨A', c', w', hrun, h2, h3, h4⟩ := napp_kp w o.type ho hnil hr h63 (d := d)
  refine wpListIn_plain hgd fun K hK => ?_
  unfold Oper.wpIn
  refine ⟨?_, ?_⟩
  · simp [Oper.about, hop, resolve, Target.leads, Sem.run_pure]
  · rw [Oper.semAt_plain F _ _ (by rw [hop]; intro c hc'; cases hc')]
    simp [execOp, hop, resolve, invoke, builtin, hs, hx, hrun, Result.andThen]
    exact hK _ _ (h A' c' w' h2 h3 h4)
theorem kpT_below {w w' : World} (h : Below w.heap.size w w') : KpT w w' := fun b cs hb _ => h.block b (Array.getElem?_eq_some_iff.1 hb).1
theorem kpT_setCell {w : World} {p : Addr} {t : TypeId} {v u : Value} (h : Blk w p.block t #[v]) : KpT w (w.setCell p u) := fun b cs hb hs => by
  by_cases e : b = p.block
  · subst e
    have := h.out
    rw [hb] at this
    injection this with this
    injection this with this _
    subst this
    cases hs
  · exact Below.heap_setCell _ _ _ _ e
/-- What Chain has gathered. -/
structure Got (w0 w : World) (B : Nat) (pre : List D.Tg) (A : Option Addr) (c : Nat) : Prop where
  box : Blk w B 46 #[.slice A pre.length c]
  own : NOwn (B + 1) 29 w A pre.length c pre
  nil : pre.length = 0 → A = none
  bel : Below w0.heap.size w0 w
  le : w0.heap.size ≤ B
  sz : B + 2 ≤ w.heap.size
theorem got_from {w0 : World} {B D0 : Nat} (hD : B + 1 ≤ D0) : OwnFrom D0 (fun (pre : List D.Tg) W => ∃ A c, Got w0 W B pre A c) := by
  rintro pre W W' row ⟨A, c, hG⟩ hg hr
  have hBlt := hG.box.lt
  refine ⟨A, c, hG.box.grown hg ?_, hG.own.kept hg.size (fun g e => ?_), hG.nil, ?_, hG.le, Nat.le_trans hG.sz hg.size⟩
  · intro e
    have := (hr _ e.symm).1
    omega
  · have hgl := hG.own.lt g e
    refine hg.block g hgl.2 (fun e' => ?_)
    obtain ⟨_, o, ho, hc⟩ := hr g e'.symm
    rcases hG.own.row.2 with ⟨e2, _⟩ | ⟨g2, cap, cur, e2, _, hh, _⟩
    · rw [e2] at e; cases e
    · rw [e2] at e
      injection e with e
      subst e
      rw [hh] at ho
      injection ho with ho
      subst ho
      cases hc
  · exact hG.bel.grown hg hG.bel.size (fun k e => by have := (hr k e).1; have := hG.le; omega)
theorem blk_from {D0 gb : Nat} {cs : Array Value} {t : TypeId} {p : Prop} : OwnFrom D0 (fun (_ : Unit) W => Blk W gb t cs ∧ p) := fun s W W' row hs hg hr =>
  ⟨hs.1.grown hg (by intro e'; obtain ⟨_, o, ho, hc⟩ := hr _ e'.symm; rw [hs.1.out] at ho; injection ho with ho; subst ho; cases hc), hs.2⟩
theorem own_ne {w : World} {base n c k : Nat} {A : Option Addr} {l : List D.Tg} {e : TypeId} {o : Obj} (h : NOwn base e w A n c l) (hk : w.heap[k]? = some o) (ho : o.isCells = false) : ∀ g, (Value.slice A n c).ownBlock = some g → g ≠ k := by
  intro g hg hgk
  subst hgk
  rcases h.row.2 with ⟨e2, _⟩ | ⟨g2, cap, cur, e2, _, hh, _⟩
  · rw [e2] at hg; cases hg
  · rw [e2] at hg
    injection hg with hg
    subst hg
    rw [hh] at hk
    injection hk with hk
    subst hk
    cases ho
theorem own_cells {w : World} {base n c : Nat} {A : Option Addr} {l : List D.Tg} {e : TypeId} (h : NOwn base e w A n c l) : ∀ (j : Nat) (o : Obj), (Value.slice A n c).ownBlock = some j → w.heap[j]? = some o → o.isCells = true := by
  intro j o hg hj
  rcases h.row.2 with ⟨e2, _⟩ | ⟨g2, cap, cur, e2, _, hh, _⟩
  · rw [e2] at hg; cases hg
  · rw [e2] at hg
    injection hg with hg
    subst hg
    rw [hh] at hj
    injection hj with hj
    subst hj
    rfl
theorem upw_stops (n : Nat) (hn : 4 ≤ n) (Bt : Nat) (x : D.Tg) (w : World) (hx : rd w ⟨Bt, 0, none⟩ = some x) :
    SeqStopsK Fence.wide n Tryd.prog 54 #[.pointer (some ⟨Bt, 0, none⟩)] (fun y : D.Tg => #[.agg (nc y)]) KpT (fun ys => ys = D.cht x) (fun pre => pre <+: D.cht x) 4 w :=
  fun l J Jx W hW hJ hJx hY h0 => upw_in n hn l Bt x J Jx W (rd_on hx hW) hJ hY h0
set_option maxRecDepth 100000 in
set_option maxHeartbeats 4000000 in
theorem chain_any (x : D.Tg) (w : World) : Calls Tryd.prog 19 #[.agg (nc x)] w fun e w' => ∃ A c, e = .returned (.slice A (D.cht x).length c) ∧ NOwn w.heap.size 29 w' A (D.cht x).length c (D.cht x) ∧ Below w.heap.size w w' := by
  refine (callsIn_wide (n := 10)).1 ?_
  have f0 := rd_new w _ 29 x rfl
  refine callsIn_of_wp_marks Tryd.func19 rfl trivial ?_ rfl
  simp only [Tryd.ntmps19, List.size_toArray, List.length_cons, List.length_nil, Nat.reduceAdd, Nat.reduceSub, Array.replicate_succ, Array.replicate_zero, List.push_toArray, List.append_toArray, List.nil_append, List.cons_append]
  gi_wp2
  refine ⟨trivial, (callsIn_wide.2 (upwards_any x _)).mono ?_⟩
  rintro e w' ⟨rfl, rfl⟩
  gi_wp2
  have hB := (Blk.new (w.alloc (.cells (nc x) 29)) 46 #[.slice none 0 0]).alloc (.cells (nc x) 29)
  rw [World.size_alloc] at hB
  have hx2 : rd (((w.alloc (.cells (nc x) 29)).alloc (.cells #[.slice none 0 0] 46)).alloc (.cells (nc x) 29)) ⟨w.heap.size + 2, 0, none⟩ = some x := rd_new _ _ _ x (by simp)
  have hbel : Below w.heap.size w (((w.alloc (.cells (nc x) 29)).alloc (.cells #[.slice none 0 0] 46)).alloc (.cells (nc x) 29)) := (((Below.refl _ _).alloc (Nat.le_refl _) _).alloc (by simp) _).alloc (by simp; omega) _
  obtain ⟨w3, hw3⟩ : ∃ w3, ((w.alloc (.cells (nc x) 29)).alloc (.cells #[.slice none 0 0] 46)).alloc (.cells (nc x) 29) = w3 := ⟨_, rfl⟩
  have hz3 : w3.heap.size = w.heap.size + 3 := by rw [← hw3]; simp
  rw [hw3] at hB hx2 hbel
  try rw [hw3]
  clear hw3 f0
  have h0 : ∃ A c, Got w w3 (w.heap.size + 1) [] A c := ⟨none, 0, hB, NOwn.nil (by omega), fun _ => rfl, hbel, Nat.le_succ _, by omega⟩
  refine wpIn_rangeFunc_ownH rfl (by decide) (gf := 54) (lb := #[.pointer (some ⟨w.heap.size + 2, 0, none⟩)]) rfl trivial (enters_of Tryd.func54 (by kernel_rfl) rfl)
    (upw_stops 9 (by decide) (w.heap.size + 2) x w3 hx2) (fun h k => kpT_t h k) kpT_b (Below.refl _ _) (fun _ => rfl)
    (fun pre W => ∃ A c, Got w W (w.heap.size + 1) pre A c) (fun _ _ _ => False) (got_from (by omega)) (fun _ _ _ _ _ hs _ _ => hs) h0
    (fun y a' W => ∃ gb, w3.heap.size ≤ gb ∧ Blk W gb 29 (nc y) ∧ a' = { tmps := #[.agg (nc x), .pointer (some ⟨w.heap.size, 0, none⟩), .slice none 0 0, .pointer (some ⟨w.heap.size + 1, 0, none⟩), .pointer (some ⟨gb, 0, none⟩), .agg (nc x), .func (.func 54) #[] #[.pointer (some ⟨w.heap.size + 2, 0, none⟩)], .agg (nc y), undef, undef, undef, undef, undef], defers := [] })
    (fun y a' s W W' row ⟨gb, h1, hs⟩ hg hr => ⟨gb, h1, blk_from s W W' row hs hg hr⟩) ?assign ?body ?done ?stop
  case assign =>
    rintro l pre y W K ⟨A, c, hG⟩ hK
    have hsz := hG.sz
    gi_wp2
    exact hK _ _ ((KeepsOthers.alloc _ _).from _) (kpT_below (below_alloc_ _ _)) ⟨A, c, hG.box.alloc _, hG.own.alloc _, hG.nil, hG.bel.alloc hG.bel.size _, hG.le, by simp; omega⟩ ⟨W.heap.size, by omega, Blk.new _ _ _, rfl⟩
  case body =>
    rintro l pre y a' W hl ⟨r, hr⟩ ⟨A, c, hG⟩ ⟨gb, hgb, hBy, rfl⟩ hlt
    have hc := hG.box.cell
    have hf := hG.box.free
    have fy := rd_blk hBy
    gi_wp2_with (gi_at_builtin; refine nappIn _ rfl (.tmp 8) (.tmp 10) rfl rfl (hG.own.alloc _) hG.nil rfl (nrow_one _ _ _ _ rfl) (by omega) ?_; intro A1 c1 w1 ho1 hg1 hk1; have hb1 := (hG.box.alloc (.cells (nc y) 29)).grown hg1 (fun e => by have := (hG.own.lt _ e.symm).1; omega); have hc1 := hb1.cell; have hf1 := hb1.free)
    have hsz := hG.sz
    have hz1 := hg1.size
    have hlp : (pre ++ [y]).length = pre.length + 1 := by simp
    refine ⟨?_, kpT_t (kpT_below (below_alloc_ W _)) (kpT_t hk1 (kpT_setCell (p := ⟨w.heap.size + 1, 0, none⟩) hb1)), A1, c1, ?_, ?_, fun h => by rw [hlp] at h; omega, ?_, hG.le, ?_⟩
    · exact (((KeepsOthers.alloc W _).trans (KeepsOthers.of_grownBy hg1 (own_cells (hG.own.alloc _)))).trans (KeepsOthers.setCell _ _ _)).from _
    · rw [hlp]; exact hb1.set_ _
    · rw [hlp]; exact ho1.kept (by simp [World.setCell]) (fun g e => Below.heap_setCell _ _ _ g (by have := (ho1.lt g e).1; show g ≠ w.heap.size + 1; omega))
    · exact ((hG.bel.alloc hG.bel.size _).grown hg1 (by have := hG.bel.size; simp; omega) (fun k e => by have := (hG.own.lt k e).1; omega)).setCell (Nat.le_succ _) _
    · simp only [World.setCell, Array.size_modify]; simp at hz1; omega
  case done =>
    rintro D0 ys W hD rfl ⟨A, c, hG⟩ hK
    have hc := hG.box.cell
    gi_wp2
    refine ⟨by simp, .inl ⟨_, _, rfl, run_takeDeferred hK, ?_⟩⟩
    exact ⟨_, results_tmp rfl _ _ _, A, c, rfl, (hG.own.kept (by simp [World.putObj]) (fun g e => World.putObj_heap_other (own_ne hG.own hK rfl g e))).low (by omega), hG.bel.trans (belowK_b (w := w) (Nat.le_refl _) W D0 _ _ (by omega) hK rfl rfl)⟩
  case stop =>
    rintro D0 c pre W _ _ h _
    exact h.elim
end Go.Proofs.YtgbnaammphilhaaDoor
