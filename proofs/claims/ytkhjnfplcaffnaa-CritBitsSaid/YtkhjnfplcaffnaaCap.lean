/-
  The leaves of a node, gathered.
-/
import Derived.Test.YtkhjnfplcaffnaaCgi
set_option linter.unusedVariables false
set_option linter.unusedSimpArgs false
set_option maxRecDepth 100000
namespace Go.Proofs.Ytkhjnfplcaffnaa
open Go.RowKit Go.Shelf
attribute [local go_sem] Oper.semAt_some
attribute [local go_sem ↓] Go.wp_at_zero Go.wp_at_succ ld_k lv_k st_k eq_k ne_k bd_k ld_b lv_b st_b eq_b ne_b bd_25 ld_r lv_r st_rk eq_rk ne_rk bd_r ld_p lv_p st_px bd_p Nm.ld_a Nm.ld_n Nm.st_a Nm.st_n Nm.eq_a Nm.eq_n Nm.ne_a Nm.ne_n Nm.lv_a Nm.lv_n ld_a ld_n st_a st_n eq_a eq_n ne_a ne_n lv_a lv_n ld_l lv_l st_l bd_l bd_n bs_l bs_k
attribute [local go_sem] run_ldk run_lvk run_stk run_eqk run_nek run_bdk_z run_ldb run_lvb run_stb run_eqb run_neb run_ldr run_lvr run_strk run_eqrk run_nerk run_bdr_z run_ldp run_lvp run_stpx Nm.run_ld_a Nm.run_ld_n Nm.run_st_n Nm.run_eq_a Nm.run_eq_n Nm.run_ne_a Nm.run_ne_n Nm.run_lv_a Nm.run_lv_n Nm.rd_new Nm.rd_old Nm.rd_drew Nm.rd_drewN run_ld_a run_ld_n run_sw_a run_sw_n run_eq_a run_eq_n run_ne_a run_ne_n run_lv_a run_lv_n st_z ne_z eq_z rd_new rd_old rd_drew rd_drewN Shp.rd_new Shp.rd_old Shp.rd_drew Shp.rd_drewN Shp.rd_set Shp.tn_new Shp.tn_old Shp.tn_drew Shp.tn_drewN tn_new tn_old tn_drew tn_drewN rd_set setRow_alloc run_stn3 run_stt15 run_lvl run_ldl run_stl run_bdl run_bdn run_bdn0 run_bsl run_bsk Shp.rd_extk cell_ext
theorem rcs_app {α : Type} (S : Shp α) (l : List α) (x : α) : S.rcs (l ++ [x]) = S.rcs l ++ S.cs x := by rw [Shp.rcs_app]; simp [Shp.rcs]
theorem ow_type {T U : TypeId} {sz base n c : Nat} {w : World} {A : Option Addr} {xs : List Value} (h : Ow T sz base w A n c xs) (hn : T ≠ U) (j : Nat) (cs : Array Value) (hj : w.heap[j]? = some (Obj.cells cs U (0, 0))) : (Value.slice A n c).ownBlock ≠ some j := by
  intro hg
  rcases h.row.2 with ⟨e2, _⟩ | ⟨g2, cap, cur, e2, _, hh, _⟩
  · rw [e2] at hg; cases hg
  · rw [e2] at hg
    injection hg with hg
    subst hg
    rw [hh] at hj
    injection hj with hj
    injection hj with h1 h2 h3
    exact hn h2
theorem ow_base {base base' : Nat} {T : TypeId} {sz n c : Nat} {W : World} {A : Option Addr} {xs : List Value} (h : Ow T sz base W A n c xs) (hb : base' ≤ base) : Ow T sz base' W A n c xs := by
  refine ⟨⟨h.row.1, ?_⟩, Nat.le_trans hb h.base⟩
  rcases h.row.2 with hn | ⟨g, cap, cur, e, hg, r⟩
  · exact .inl hn
  · exact .inr ⟨g, cap, cur, e, Nat.le_trans hb hg, r⟩
set_option maxHeartbeats 8000000 in
theorem apps_any (B : Nat) (o : Option Tk) (w : World) (hb : w.cell? ⟨B, 0, none⟩ = some (.pointer (pt o))) (hT : ∀ t, o = some t → Nd w t ∧ t.wf) (hz : (Cr.Tr.lso o).length ≤ 1000) : Calls Try.prog 62 #[.slice none 0 0, .func (.func 53) #[] #[.pointer (some ⟨B, 0, none⟩)]] w fun e w' => ∃ (A : Option Addr) (c : Nat), e = .returned (.slice A (Cr.Tr.lso o).length c) ∧ Ow 81 26 w.heap.size w' A (Cr.Tr.lso o).length c (lS.rcs (Cr.Tr.lso o)) ∧ Below w.heap.size w w' := by
  refine (callsIn_wide (n := 10)).1 ?_
  refine callsIn_of_wp_marks Try.func62 rfl trivial ?_ rfl
  simp only [Try.ntmps62, List.size_toArray, List.length_cons, List.length_nil, Nat.reduceAdd, Nat.reduceSub, Array.replicate_succ, Array.replicate_zero, List.push_toArray, List.append_toArray, List.nil_append, List.cons_append]
  gi_wp2
  have hB := Blk.new w 114 #[.slice none 0 0]
  have hbel : Below w.heap.size w (w.alloc (.cells #[.slice none 0 0] 114)) := below_alloc_ _ _
  have hb3 := cell_kept_ hbel hb
  obtain ⟨gb, hgb⟩ : ∃ gb, w.heap.size = gb := ⟨_, rfl⟩
  obtain ⟨w3, hw3⟩ : ∃ w3, w.alloc (.cells #[.slice none 0 0] 114) = w3 := ⟨_, rfl⟩
  have hz3 : w3.heap.size = gb + 1 := by rw [← hw3, ← hgb]; simp
  have hT3 : ∀ t, o = some t → Nd w3 t ∧ t.wf ∧ ∀ q ∈ t.bl, q < w3.heap.size ∧ q ∉ [gb] := fun t e => by
    obtain ⟨h1, h2⟩ := hT t e
    refine ⟨by rw [← hw3]; exact h1.on (below_alloc_ _ _), h2, fun q hq => ?_⟩
    obtain ⟨cs, hB⟩ := h1.lt q hq
    have := hB.lt
    exact ⟨by omega, by simp; omega⟩
  rw [hw3] at hB hbel hb3
  rw [hgb] at hB hbel ⊢
  try rw [hw3]
  try rw [hgb]
  have HZ3 := Lib.hid hz3
  have HBEL := Lib.hid hbel
  clear hw3 hT hb hz3 hbel
  refine wpIn_rangeFunc_ownH rfl (by decide) (gf := 53) (lb := #[.pointer (some ⟨B, 0, none⟩)]) rfl trivial (enters_of Try.func53 (by kernel_rfl) rfl)
    (wi_stops 9 (by decide) B w3.heap.size [gb] o w3 hb3 hT3) (fun h k => h.trans k) (fun W l o o' h1 h2 h3 _ => Kp.put W l o o' h1 h2 h3) (Below.refl _ _) (fun _ => rfl)
    (fun pre W => Ov w3.heap.size [gb] w3 W ∧ ∃ A c, Blk W gb 114 #[.slice A pre.length c] ∧ Ow 81 26 w3.heap.size W A pre.length c (lS.rcs pre)) (fun _ _ _ => False)
    (fun s W W' row hs hg hr => ⟨hs.1.grown (Nat.le_refl _) hg fun r e => .inl (hr r e).1, let ⟨A, c, h1, h2⟩ := hs.2; ⟨A, c, (blk_own (fun _ : List Lf => #[.slice A s.length c])) s W W' row h1 hg hr, ow_own h2 hg hr⟩⟩) (fun _ _ _ _ _ hs _ _ => hs) ⟨Ov.refl _ _ _, none, 0, hB, Ow.nil _ 26 (Nat.le_refl _)⟩
    (fun y a' W => ∃ gx, w3.heap.size ≤ gx ∧ Blk W gx 81 (lS.v y) ∧ a' = { tmps := #[.slice none 0 0, .func (.func 53) #[] #[.pointer (some ⟨B, 0, none⟩)], .pointer (some ⟨gb, 0, none⟩), undef, .slice none 0 0, .pointer (some ⟨gx, 0, none⟩), .func (.func 53) #[] #[.pointer (some ⟨B, 0, none⟩)], .agg (lS.v y), undef, undef, undef, undef, undef], defers := [] })
    (fun y a' s W W' row ⟨gx, h1, h2, h3⟩ hg hr => ⟨gx, h1, (blk_own (fun _ : Unit => lS.v y)) s W W' row h2 hg hr, h3⟩) ?assign ?body ?done ?stop
  case assign =>
    rintro l pre y W K ⟨hO, A, c, h1, h2⟩ hK
    have hsz := hO.size
    gi_wp2
    exact hK _ _ ((KeepsOthers.alloc _ _).from _) (Kp.below (below_alloc_ _ _) hsz) ⟨hO.on (Nat.le_refl _) (below_alloc_ _ _), A, c, h1.alloc _, h2.alloc _⟩ ⟨W.heap.size, hsz, Blk.new _ _ _, rfl⟩
  case body =>
    rintro l pre y a' W hl ⟨r, hr⟩ ⟨hO, A, c, hBs, hOw⟩ ⟨gx, hgx, hBy, rfl⟩ hlt
    have hc := hBs.cell
    have hf := hBs.free
    have fy := Shp.rd_blk (S := lS) hBy
    gi_wp2_with (gi_at_builtin; refine gappIn _ leaf_under leaf_info (by kernel_rfl) (by decide) (by decide) rfl (.tmp 8) (.tmp 10) rfl rfl (hOw.alloc (.cells (lS.v y) 81)) rfl (rw_shp lS W y 81 _ rfl) (lS.one y) (by omega) ?_; intro A1 c1 w1 ho1 hg1; have hb1 := (hBs.alloc (.cells (lS.v y) 81)).grown hg1 (fun e => by have := (hOw.lt _ e.symm).1; have := HZ3.out; omega); have hc1 := hb1.cell; have hf1 := hb1.free)
    have hsz := hO.size
    have hz1 := hg1.size
    have hlp : (pre ++ [y]).length = pre.length + 1 := by simp
    have hoc := ow_cells (hOw.alloc (.cells (lS.v y) 81))
    have hO1 : Ov w3.heap.size [gb] w3 w1 := (hO.on (Nat.le_refl _) (below_alloc_ W _)).grown (Nat.le_refl _) hg1 (fun r e => .inl (hOw.lt r e).1)
    refine ⟨?_, ?_, hO1.set (by simp) _, A1, c1, ?_, ?_⟩
    · exact (((KeepsOthers.alloc W _).trans (KeepsOthers.of_grownBy hg1 fun j o e h => (hoc j o e h).1)).trans (KeepsOthers.setCell _ _ _)).from _
    · refine ((Kp.below (below_alloc_ W (.cells (lS.v y) 81)) hsz).trans ⟨hz1, fun g h1 h2 => hg1.block g (by simp; omega) (fun e => by have := (hOw.lt g e.symm).1; omega), fun g cs h => hg1.block g (Array.getElem?_eq_some_iff.1 h).1 fun e => ow_type (hOw.alloc (.cells (lS.v y) 81)) (by decide) g cs h e.symm⟩).trans (Kp.set _ _ _ _ (by simp) hb1 (by decide))
    · rw [hlp]; exact hb1.set_ _
    · rw [hlp, rcs_app]
      exact ho1.kept (by simp [World.setCell]) (fun g e => Below.heap_setCell _ _ _ g (by have := (ho1.lt g e).1; have := HZ3.out; show g ≠ gb; omega))
  case done =>
    rintro D0 ys W hD rfl ⟨hO, A, c, hB2, hOw⟩ hK
    have hc := hB2.cell
    have hfin := HBEL.out.trans ((hO.put hD (.deferred none)).below (b := gb) (by have := HZ3.out; omega) (fun x hx => by simp at hx; omega))
    gi_wp2
    refine ⟨by simp, .inl ⟨_, _, rfl, run_takeDeferred hK, ?_⟩⟩
    rw [← hgb] at hfin
    refine ⟨_, results_tmp rfl _ _ _, A, c, rfl, ow_base (hOw.kept (by simp [World.putObj]) (fun g e => World.putObj_heap_other (fun e' => by subst e'; have := (ow_cells hOw g _ e hK).1; cases this))) (by have := HZ3.out; omega), by first | exact hfin | (rw [hgb]; exact hfin)⟩
  case stop =>
    rintro D0 c pre W _ _ h _
    exact h.elim
end Go.Proofs.Ytkhjnfplcaffnaa
