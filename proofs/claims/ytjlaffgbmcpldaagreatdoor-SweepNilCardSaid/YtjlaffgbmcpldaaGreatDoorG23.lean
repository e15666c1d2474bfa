/-
  
-/
import Derived.Test.YtjlaffgbmcpldaaGreatDoorG22
import Derived.Test.YtjlaffgbmcpldaaGreatDoorG21
set_option linter.unusedVariables false
set_option linter.unusedSimpArgs false
set_option maxRecDepth 100000
namespace Go.Proofs.YtjlaffgbmcpldaaGreatDoor
open Go.RowKit Go.Shelf
attribute [local go_sem] Oper.semAt_some
attribute [local go_sem ↓] Go.wp_at_zero Go.wp_at_succ ld_k lv_k st_k eq_k ne_k bd_k ld_b lv_b st_b eq_b ne_b bd_25 ld_r lv_r st_rk eq_rk ne_rk bd_r ld_p lv_p st_px bd_p Nm.ld_a Nm.ld_n Nm.st_a Nm.st_n Nm.eq_a Nm.eq_n Nm.ne_a Nm.ne_n Nm.lv_a Nm.lv_n ld_a ld_n st_a st_n eq_a eq_n ne_a ne_n lv_a lv_n ld_l lv_l st_l bd_l bd_n bs_k
attribute [local go_sem] run_ldk run_lvk run_stk run_eqk run_nek run_bdk_z run_ldb run_lvb run_stb run_eqb run_neb run_ldr run_lvr run_strk run_eqrk run_nerk run_bdr_z run_ldp run_lvp run_stpx Nm.run_ld_a Nm.run_ld_n Nm.run_st_n Nm.run_eq_a Nm.run_eq_n Nm.run_ne_a Nm.run_ne_n Nm.run_lv_a Nm.run_lv_n Nm.rd_new Nm.rd_old Nm.rd_drew Nm.rd_drewN run_ld_a run_ld_n run_sw_a run_sw_n run_eq_a run_eq_n run_ne_a run_ne_n run_lv_a run_lv_n st_z ne_z eq_z rd_new rd_old rd_drew rd_drewN Shp.rd_new Shp.rd_old Shp.rd_drew Shp.rd_drewN Shp.rd_set Shp.tn_new Shp.tn_old Shp.tn_drew Shp.tn_drewN tn_new tn_old tn_drew tn_drewN rd_set setRow_alloc run_stn3 run_stt15 run_lvl run_ldl run_stl run_bdl run_bdn run_bdn0 run_bsk Shp.rd_extk cell_ext
theorem ow_cells {T : TypeId} {sz base n c : Nat} {w : World} {A : Option Addr} {xs : List Value} (h : Ow T sz base w A n c xs) : ∀ (j : Nat) (o : Obj), (Value.slice A n c).ownBlock = some j → w.heap[j]? = some o → o.isCells = true ∧ o.isWalk = false := by
 intro j o hg hj
 rcases h.row.2 with ⟨e2, _⟩ | ⟨g2, cap, cur, e2, _, hh, _⟩
 ·rw [e2] at hg; cases hg
 ·rw [e2] at hg
  injection hg with hg
  subst hg
  rw [hh] at hj
  injection hj with hj
  subst hj
  exact ⟨rfl, rfl⟩
theorem gappIn {F : Fence} {nF : Nat} {ST T : TypeId} {z : Value} {sz by_ : Nat} (w : World) (hu : Tryz.prog.underlying ST = some (.slice T)) (hi : (Tryz.prog.info? T).map (fun i => (i.zero, i.size, i.bytes)) = some (some z, sz, by_)) (hz : z.cells.size = sz) (hs : 0 < sz) (hby : by_ ≤ 1000)
  {ops : Array Oper} {rest : List Oper} {o : Oper} {a : Act} {Q : Exit → Act → World → Prop} (hgd : o.guard = none) (s x : Operand)
  (hop : o.op = .call { callee := .builtin .append, args := #[s, x], argTypes := #[ST, ST] })
  {base : Nat} {A B : Option Addr} {n c m d : Nat} {l k : List Value} (hes : a.eval s = .slice A n c) (ho : Ow T sz base w A n c l) (hx : a.eval x = .slice B m d) (hr : Rw sz w B m k) (h1 : ∀ u ∈ k, u.oneCell' = true) (h63 : n + m ≤ 1000000)
  (h : ∀ A' c' w', Ow T sz base w' A' (n + m) c' (l ++ k) → w.grownBy w' (Value.slice A n c).ownBlock → wpListIn F nF Tryz.prog ops Q rest (a.put o.dst (.slice A' (n + m) c')) w') : wpListIn F nF Tryz.prog ops Q (o :: rest) a w := by
 obtain ⟨A', c', w', hrun, h2, h3, h4⟩ := run_gapp w hu hi hz hs o.type ho hr h1 h63 hby (d := d)
 refine wpListIn_plain hgd fun K hK => ?_
 unfold Oper.wpIn
 refine ⟨?_, ?_⟩
 ·simp [Oper.about, hop, resolve, Target.leads, Sem.run_pure]
 ·rw [Oper.semAt_plain F _ _ (by rw [hop]; intro c hc'; cases hc')]
  simp [execOp, hop, resolve, invoke, builtin, hes, hx, hrun, Result.andThen]
  exact hK _ _ (h A' c' w' h2 h3)
theorem key_under : Tryz.prog.underlying 106 = some (.slice 39) := by kernel_rfl
theorem key_info : (Tryz.prog.info? 39).map (fun i => (i.zero, i.size, i.bytes)) = some (some (.agg (kS.v D.zK)), 25, 25) := by kernel_rfl
theorem rw_shp {α : Type} (S : Shp α) (w : World) (x : α) (T : TypeId) (g : Nat) (hg : g = w.heap.size) : Rw S.n (w.alloc (.cells (S.v x) T)) (some ⟨g, 0, none⟩) 1 (S.cs x) := by
 subst hg
 have := rw_new w S.n T 1 (S.v x) (by rw [Shp.v_size]; omega)
 simpa [Shp.v] using this
theorem ow_own {base B n : Nat} {T : TypeId} {sz : Nat} {W W' : World} {A : Option Addr} {c : Nat} {xs : List Value} {row : Option Nat} (h : Ow T sz base W A n c xs) (hg : W.grownBy W' row) (hr : ∀ r, row = some r → B ≤ r ∧ ∃ o : Obj, W.heap[r]? = some o ∧ o.isCells = false) : Ow T sz base W' A n c xs :=
 h.kept hg.size fun g e => hg.block g (h.lt g e).2 (fun e' => by
  obtain ⟨_, o, ho, hc⟩ := hr g e'.symm
  have := (ow_cells h g o e ho).1
  rw [hc] at this; cases this)
theorem rcs_app {α : Type} (S : Shp α) (l : List α) (x : α) : S.rcs (l ++ [x]) = S.rcs l ++ S.cs x := by rw [Shp.rcs_app]; simp [Shp.rcs]
theorem ow_type {T U : TypeId} {sz base n c : Nat} {w : World} {A : Option Addr} {xs : List Value} (h : Ow T sz base w A n c xs) (hn : T ≠ U) (j : Nat) (cs : Array Value) (hj : w.heap[j]? = some (Obj.cells cs U (0, 0))) : (Value.slice A n c).ownBlock ≠ some j := by
 intro hg
 rcases h.row.2 with ⟨e2, _⟩ | ⟨g2, cap, cur, e2, _, hh, _⟩
 ·rw [e2] at hg; cases hg
 ·rw [e2] at hg
  injection hg with hg
  subst hg
  rw [hh] at hj
  injection hj with hj
  injection hj with h1 h2 h3
  exact hn h2
theorem ow_base {base base' : Nat} {T : TypeId} {sz n c : Nat} {W : World} {A : Option Addr} {xs : List Value} (h : Ow T sz base W A n c xs) (hb : base' ≤ base) : Ow T sz base' W A n c xs := by
 refine ⟨⟨h.row.1, ?_⟩, Nat.le_trans hb h.base⟩
 rcases h.row.2 with hn | ⟨g, cap, cur, e, hg, r⟩
 ·exact .inl hn
 ·exact .inr ⟨g, cap, cur, e, Nat.le_trans hb hg, r⟩
end Go.Proofs.YtjlaffgbmcpldaaGreatDoor
namespace Go.Proofs.YtjlaffgbmcpldaaGreatDoor
open Go.RowKit
theorem drop_nd {w : World} {k : D.Ky} : ∀ {t : Tk} {p : Addr}, Nd w t → t.wf → t.bl.Nodup → t.bit < 200 → ∃ y s, (t.path k 200).getLast? = some y ∧ kid y (!Cr.Bits.bt k y.bit) = some s ∧ t.bit ≤ y.bit ∧ y.bit < 200 ∧ List.Sublist s.bl t.bl ∧
  (¬ t.bit < y.bit → t.del k = some s ∧ Nd w s) ∧
  (t.bit < y.bit → ∃ t', t.del k = some t' ∧ t'.ad = t.ad ∧ List.Sublist t'.bl t.bl ∧ Nd (w.setCell (plc k p (t.path k y.bit)) (.pointer (some ⟨s.ad, 0, none⟩))) t')
 | .lf _ _ _, p, _, _, _, h => by simp only [Cr.Tr.bit] at h; omega
 | .br a b l r, p, hN, hw, hn, h => by
  have h : b < 200 := h
  have hk := Cr.Tr.kids hw
  simp only [Cr.Tr.bl, List.nodup_cons, List.mem_append, not_or, List.nodup_append] at hn
  obtain ⟨⟨n1, n2⟩, nl, nr, nlr⟩ := hn
  have sl : List.Sublist l.bl (Cr.Tr.br a b l r).bl := (List.sublist_append_left _ _).trans (List.sublist_cons_self _ _)
  have sr : List.Sublist r.bl (Cr.Tr.br a b l r).bl := (List.sublist_append_right _ _).trans (List.sublist_cons_self _ _)
  by_cases hbt : Cr.Bits.bt k b = true
  ·have hsd : D.sd k b = 1 := by unfold D.sd; rw [if_pos hbt]
   have hpath : ∀ d, b < d → (Cr.Tr.br a b l r).path k d = .br a b l r :: r.path k d := fun d hd => by simp only [Cr.Tr.path, if_pos hd, if_pos hbt]
   have hdel : (Cr.Tr.br a b l r).del k = match r.del k with | none => some l | some r' => some (.br a b l r') := by simp only [Cr.Tr.del, if_pos hbt]; cases r.del k <;> rfl
   by_cases hr : r.bit < 200
   ·obtain ⟨y, s, e1, e2, e3, e4, e5, e6, e7⟩ := drop_nd (k := k) (p := ⟨a, 1 + D.sd k b, none⟩) hN.2.2 hw.2.2.2.2.2 nr hr
    have hby : b < y.bit := Nat.lt_of_lt_of_le hk.2 e3
    refine ⟨y, s, ?_, e2, Nat.le_of_lt hby, e4, e5.trans sr, fun c => absurd hby c, fun _ => ?_⟩
    ·rw [hpath 200 h, List.getLast?_cons, e1]; rfl
    ·rw [hpath _ hby, hdel]
     by_cases c : r.bit < y.bit
     ·obtain ⟨t', f1, f2, f3, f4⟩ := e7 c
      have hin := plc_in (k := k) (d := y.bit) (p := ⟨a, 1 + D.sd k b, none⟩) c (by omega)
      rw [f1]
      refine ⟨_, rfl, rfl, List.Sublist.cons_cons _ (List.Sublist.append_left f3 _), ?_, nd_set hN.2.1 (fun e => nlr _ e _ hin rfl) _, f4⟩
      rw [f2]
      exact ⟨(Below.heap_setCell w _ _ a (fun e => n2 (by rw [e]; exact hin))).trans hN.1.out⟩
     ·obtain ⟨f1, f2⟩ := e6 c
      rw [f1, path_out c]
      refine ⟨_, rfl, rfl, List.Sublist.cons_cons _ (List.Sublist.append_left e5 _), ?_⟩
      show Nd (w.setCell ⟨a, 1 + D.sd k b, none⟩ _) _
      rw [hsd]
      have hset := hN.1.put 2 (.pointer (some ⟨s.ad, 0, none⟩))
      rw [ndc_hi] at hset
      exact ⟨hset, nd_set hN.2.1 n1 _, nd_set f2 (fun e => n2 (e5.subset e)) _⟩
   ·have hlf : ∃ a' x v, r = .lf a' x v := by
     cases r with
     | lf a' x v => exact ⟨_, _, _, rfl⟩
     | br a' b' l' r' => exact absurd hw.2.2.2.2.2.1 hr
    obtain ⟨a', x, v, rfl⟩ := hlf
    refine ⟨.br a b l (.lf a' x v), l, ?_, ?_, Nat.le_refl _, h, sl, fun _ => ⟨?_, hN.2.1⟩, fun c => absurd c (Nat.lt_irrefl _)⟩
    ·rw [hpath 200 h]; rfl
    ·show kid _ (!Cr.Bits.bt k b) = _
     rw [hbt]; rfl
    ·rw [hdel]; rfl
  ·have hbf : Cr.Bits.bt k b = false := by simpa using hbt
   have hsd : D.sd k b = 0 := by unfold D.sd; rw [if_neg hbt]
   have hpath : ∀ d, b < d → (Cr.Tr.br a b l r).path k d = .br a b l r :: l.path k d := fun d hd => by simp only [Cr.Tr.path, if_pos hd, if_neg hbt]
   have hdel : (Cr.Tr.br a b l r).del k = match l.del k with | none => some r | some l' => some (.br a b l' r) := by simp only [Cr.Tr.del, if_neg hbt]; cases l.del k <;> rfl
   by_cases hr : l.bit < 200
   ·obtain ⟨y, s, e1, e2, e3, e4, e5, e6, e7⟩ := drop_nd (k := k) (p := ⟨a, 1 + D.sd k b, none⟩) hN.2.1 hw.2.2.2.2.1 nl hr
    have hby : b < y.bit := Nat.lt_of_lt_of_le hk.1 e3
    refine ⟨y, s, ?_, e2, Nat.le_of_lt hby, e4, e5.trans sl, fun c => absurd hby c, fun _ => ?_⟩
    ·rw [hpath 200 h, List.getLast?_cons, e1]; rfl
    ·rw [hpath _ hby, hdel]
     by_cases c : l.bit < y.bit
     ·obtain ⟨t', f1, f2, f3, f4⟩ := e7 c
      have hin := plc_in (k := k) (d := y.bit) (p := ⟨a, 1 + D.sd k b, none⟩) c (by omega)
      rw [f1]
      refine ⟨_, rfl, rfl, List.Sublist.cons_cons _ (List.Sublist.append_right f3 _), ?_, f4, nd_set hN.2.2 (fun e => nlr _ hin _ e rfl) _⟩
      rw [f2]
      exact ⟨(Below.heap_setCell w _ _ a (fun e => n1 (by rw [e]; exact hin))).trans hN.1.out⟩
     ·obtain ⟨f1, f2⟩ := e6 c
      rw [f1, path_out c]
      refine ⟨_, rfl, rfl, List.Sublist.cons_cons _ (List.Sublist.append_right e5 _), ?_⟩
      show Nd (w.setCell ⟨a, 1 + D.sd k b, none⟩ _) _
      rw [hsd]
      have hset := hN.1.put 1 (.pointer (some ⟨s.ad, 0, none⟩))
      rw [ndc_lo] at hset
      exact ⟨hset, nd_set f2 (fun e => n1 (e5.subset e)) _, nd_set hN.2.2 n2 _⟩
   ·have hlf : ∃ a' x v, l = .lf a' x v := by
     cases l with
     | lf a' x v => exact ⟨_, _, _, rfl⟩
     | br a' b' l' r' => exact absurd hw.2.2.2.2.1.1 hr
    obtain ⟨a', x, v, rfl⟩ := hlf
    refine ⟨.br a b (.lf a' x v) r, r, ?_, ?_, Nat.le_refl _, h, sr, fun _ => ⟨?_, hN.2.2⟩, fun c => absurd c (Nat.lt_irrefl _)⟩
    ·rw [hpath 200 h]; rfl
    ·show kid _ (!Cr.Bits.bt k b) = _
     rw [hbf]; rfl
    ·rw [hdel]; rfl
def lbt (l : List Tk) : Nat := match l.getLast? with
 | none => 0
 | some y => y.bit
def lft (k : D.Ky) (l : List Tk) : Option Addr := match l.getLast? with
 | none => none
 | some y => pt (kid y (!Cr.Bits.bt k y.bit))
theorem lbt_app (l : List Tk) (y : Tk) : lbt (l ++ [y]) = y.bit := by simp [lbt]
theorem lft_app (k : D.Ky) (l : List Tk) (y : Tk) : lft k (l ++ [y]) = pt (kid y (!Cr.Bits.bt k y.bit)) := by simp [lft]
theorem lbt_le {w : World} {g : Nat} {o : Option Tk} (h : TR w g o) {k : D.Ky} {l : List Tk} (hl : ∀ y ∈ l, y ∈ pth k 200 o) : lbt l ≤ 200 := by
 unfold lbt
 cases e : l.getLast? with
 | none => exact Nat.zero_le _
 | some y => exact Nat.le_of_lt (h.mem (hl y (List.mem_of_getLast? e))).2.2.1
theorem tr_del {W : World} {g : Nat} {t : Tk} {k : D.Ky} {n : Int} (hT : TR W g (some t)) (hk : (t.near k).hd.1 = k) (hB : Blk W g 177 #[.pointer (pt (some t)), .int .i64 n]) :
  TR (W.setCell (plc k ⟨g, 0, none⟩ (pth k (lbt (pth k 200 (some t))) (some t))) (.pointer (lft k (pth k 200 (some t))))) g (t.del k) ∧
  Blk (W.setCell (plc k ⟨g, 0, none⟩ (pth k (lbt (pth k 200 (some t))) (some t))) (.pointer (lft k (pth k 200 (some t))))) g 177 #[.pointer (pt (t.del k)), .int .i64 n] ∧
  Cr.Tr.lso (t.del k) = Cr.del k t.ls ∧ ∀ q ∈ blo (t.del k), q ∈ t.bl := by
 have hw := hT.wf t rfl
 have hg := hT.out t rfl
 have hN := hT.nd t rfl
 have hnd := hT.ndp t rfl
 obtain ⟨hls, hwf⟩ := Cr.Tr.ls_del hw hk
 have hlen : (Cr.Tr.lso (t.del k)).length ≤ 1000 := by
  rw [hls]
  exact Nat.le_trans (List.length_filter_le _ _) hT.sz
 by_cases hb : t.bit < 200
 ·obtain ⟨y, s, e1, e2, e3, e4, e5, e6, e7⟩ := drop_nd (k := k) (p := ⟨g, 0, none⟩) hN hw hnd hb
  have el : lbt (pth k 200 (some t)) = y.bit := by unfold lbt pth; rw [e1]
  have ef : lft k (pth k 200 (some t)) = some ⟨s.ad, 0, none⟩ := by unfold lft pth; rw [e1]; show pt (kid y (!Cr.Bits.bt k y.bit)) = _; rw [e2]; rfl
  rw [el, ef]
  by_cases c : t.bit < y.bit
  ·obtain ⟨t', f1, f2, f3, f4⟩ := e7 c
   have hin := plc_in (k := k) (d := y.bit) (p := ⟨g, 0, none⟩) c (by omega)
   have hB2 : Blk (W.setCell (plc k ⟨g, 0, none⟩ (pth k y.bit (some t))) (.pointer (some ⟨s.ad, 0, none⟩))) g 177 #[.pointer (pt (some t')), .int .i64 n] := by
    have : pt (some t') = pt (some t) := by simp only [pt, Option.map_some, f2]
    rw [this]
    exact ⟨(Below.heap_setCell W _ _ g (fun e => hg (by rw [e]; exact hin))).trans hB.out⟩
   rw [f1] at hls hwf hlen ⊢
   refine ⟨⟨⟨n, hB2⟩, fun u e => ?_, fun u e => hwf u e, fun u e => ?_, hlen⟩, hB2, hls, fun q hq => f3.subset hq⟩
   ·injection e with e; subst e; exact f4
   ·injection e with e; subst e; exact hnd.sublist f3
  ·obtain ⟨f1, f2⟩ := e6 c
   have hp : pth k y.bit (some t) = [] := path_out c
   rw [hp]
   rw [f1] at hls hwf hlen ⊢
   have hB2 := hB.put 0 (.pointer (some ⟨s.ad, 0, none⟩))
   refine ⟨⟨⟨n, hB2⟩, fun u e => ?_, fun u e => hwf u e, fun u e => ?_, hlen⟩, hB2, hls, fun q hq => e5.subset hq⟩
   ·injection e with e; subst e; exact nd_set f2 (fun e => hg (e5.subset e)) _
   ·injection e with e; subst e; exact hnd.sublist e5
 ·have hlf : ∃ a' x v, t = .lf a' x v := by
   cases t with
   | lf a' x v => exact ⟨_, _, _, rfl⟩
   | br a' b' l' r' => exact absurd hw.1 hb
  obtain ⟨a', x, v, rfl⟩ := hlf
  have hB2 := hB.put 0 (.pointer none)
  exact ⟨⟨⟨n, hB2⟩, fun u e => (nomatch e), fun u e => (nomatch e), fun u e => (nomatch e), hlen⟩, hB2, hls, fun q hq => (nomatch hq)⟩
end Go.Proofs.YtjlaffgbmcpldaaGreatDoor
namespace Go.Proofs.YtjlaffgbmcpldaaGreatDoor
open Go.RowKit Go.Shelf
attribute [local go_sem] Oper.semAt_some
attribute [local go_sem ↓] Go.wp_at_zero Go.wp_at_succ ld_k lv_k st_k eq_k ne_k bd_k ld_b lv_b st_b eq_b ne_b bd_25 ld_r lv_r st_rk eq_rk ne_rk bd_r ld_p lv_p st_px bd_p Nm.ld_a Nm.ld_n Nm.st_a Nm.st_n Nm.eq_a Nm.eq_n Nm.ne_a Nm.ne_n Nm.lv_a Nm.lv_n ld_a ld_n st_a st_n eq_a eq_n ne_a ne_n lv_a lv_n ld_l lv_l st_l bd_l bd_n bs_k
attribute [local go_sem] run_ldk run_lvk run_stk run_eqk run_nek run_bdk_z run_ldb run_lvb run_stb run_eqb run_neb run_ldr run_lvr run_strk run_eqrk run_nerk run_bdr_z run_ldp run_lvp run_stpx Nm.run_ld_a Nm.run_ld_n Nm.run_st_n Nm.run_eq_a Nm.run_eq_n Nm.run_ne_a Nm.run_ne_n Nm.run_lv_a Nm.run_lv_n Nm.rd_new Nm.rd_old Nm.rd_drew Nm.rd_drewN run_ld_a run_ld_n run_sw_a run_sw_n run_eq_a run_eq_n run_ne_a run_ne_n run_lv_a run_lv_n st_z ne_z eq_z rd_new rd_old rd_drew rd_drewN Shp.rd_new Shp.rd_old Shp.rd_drew Shp.rd_drewN Shp.rd_set Shp.tn_new Shp.tn_old Shp.tn_drew Shp.tn_drewN tn_new tn_old tn_drew tn_drewN rd_set setRow_alloc run_stn3 run_stt15 run_lvl run_ldl run_stl run_bdl run_bdn run_bdn0 run_bsk Shp.rd_extk cell_ext
theorem region_wide {P : Program} {Q : Exit → Act → World → Prop} {n : Nat} {ops : Array Oper} {S : World → Prop} {id : Nat} {a : Act} {w : World} {R : Act → World → Prop} (hm : P.follows .mixedOrders = true) (hS : S w.drew)
  (h : S w.drew → wpAnyH P .any ops (Nrm R) S ops.size (Array.replicate ops.size false) a w.drew) (hR : ∀ a' w', R a' w' → Q .normal a' w') : (Code.region id ops true).wpIn Fence.wide n P Q a w := by
 refine wpIn_mono (Q := Nrm R) (wpIn_wide.2 (wp_region_held_drew hm hS h)) ?_
 intro e a' w' hq
 cases e with
 | normal => exact hR _ _ hq
 | exit id => exact hq.elim
 | goto l => exact hq.elim
 | ret => exact hq.elim
 | panic ch => exact hq.elim
 | outgrown => exact hq.elim
set_option maxHeartbeats 16000000 in
theorem drop_any (g : Nat) (t : Tk) (k : D.Ky) (w : World) (hT : TC w g (some t)) (hk : (t.near k).hd.1 = k) : Calls Tryz.prog 183 #[.pointer (some ⟨g, 0, none⟩), .agg (kS.v k)] w fun e w' => (∃ x, e = .returned x) ∧ TC w' g (t.del k) ∧ Cr.Tr.lso (t.del k) = Cr.del k t.ls ∧ (∀ q ∈ blo (t.del k), q ∈ t.bl) ∧ Ov w.heap.size (g :: t.bl) w w' := by
 have HK := Lib.hid hk
 have hg := hT.tr.lt
 have hsz := hT.tr.sz
 obtain ⟨w0, hw0⟩ : ∃ w0, w.alloc (.cells (kS.v k) 39) = w0 := ⟨_, rfl⟩
 have f0 : kS.rd w0 ⟨w.heap.size, 0, none⟩ = some k := by rw [← hw0]; exact Shp.rd_new _ _ _ _ rfl
 have b0 : Below w.heap.size w w0 := by rw [← hw0]; exact below_alloc_ _ _
 have hz0 : w0.heap.size = w.heap.size + 1 := by rw [← hw0]; simp
 have hT0 := hT.on b0
 have hB0 := hT0.blk
 obtain ⟨n, hn⟩ : ∃ n, (Cr.Tr.lso (some t)).length = n := ⟨_, rfl⟩
 have hn1 : n ≤ 1000 := by omega
 have hc0 := hT0.cnt
 rw [hn] at hB0 hc0
 have hf0 := hB0.f 1
 have i0 : (0 : Int) ≤ (n : Int) := by omega
 have i1 : (n : Int) ≤ 1000 := by omega
 obtain ⟨w1, hw1⟩ : ∃ w1, w0.setCell ⟨g, 1, none⟩ (.int .i64 ((n : Int) - 1)) = w1 := ⟨_, rfl⟩
 obtain ⟨hT1, hB1⟩ := hT0.tr.count hB0 ((n : Int) - 1)
 have hO1 : Ov w.heap.size (g :: t.bl) w w1 := by rw [← hw1]; exact ((Ov.refl _ _ _).on (Nat.le_refl _) b0).set (by simp) _
 have f1 : kS.rd w1 ⟨w.heap.size, 0, none⟩ = some k := by rw [← hw1]; exact (Shp.rd_setCell _ _ _ _ (by simp; omega)).trans f0
 have hz1 : w1.heap.size = w.heap.size + 1 := by rw [← hw1]; simp [World.setCell, hz0]
 rw [hw1] at hT1 hB1
 obtain ⟨gb, hgb⟩ : ∃ gb, w1.heap.size = gb := ⟨_, rfl⟩
 obtain ⟨w2, hw2⟩ : ∃ w2, w1.alloc (.cells #[.pointer none] 175) = w2 := ⟨_, rfl⟩
 have b2 : Below w1.heap.size w1 w2 := by rw [← hw2]; exact below_alloc_ _ _
 have hT2 := hT1.on b2
 have hB2 := hB1.on b2
 have f2 := Shp.rd_on f1 b2
 have B2 : Blk w2 gb 175 #[.pointer none] := by rw [← hw2, ← hgb]; exact Blk.new _ _ _
 have hO2 := hO1.on (Nat.le_refl _) b2
 have CB := Lib.hid (fun w => kbytes_any k w)
 have CP := Lib.hid (fun w => passed_any (some ⟨g, 0, none⟩) k 200 w)
 have CSi := Lib.hid (fun i (hi : i < 200) w => side_any k i hi w)
 have HT := Lib.hid hT
 have HZ := Lib.hid (show w.heap.size + 1 = gb by omega)
 have HZ0 := Lib.hid hz0
 clear hT hT0 hB0 hk f0 hT1 hB1 f1 hO1 hsz hz0 hz1
 refine (callsIn_wide (n := 10)).1 ?_
 refine callsIn_of_wp_marks Tryz.func183 rfl trivial ?_ rfl
 simp only [Tryz.ntmps183, List.size_toArray, List.length_cons, List.length_nil, Nat.reduceAdd, Nat.reduceSub, Array.replicate_succ, Array.replicate_zero, List.push_toArray, List.append_toArray, List.nil_append, List.cons_append]
 gi_wp2
 try rw [hw0]
 gi_wp2
 try rw [hw1]
 try rw [hw2]
 try rw [hgb]
 clear hw0 hw1 hw2 hc0 hf0 i0 i1
 gi_wp2
 refine ⟨trivial, ?_⟩
 refine (callsIn_wide.2 (CB.out _)).mono ?_
 rintro e w3 ⟨rfl, b3⟩
 have hT3 := hT2.on b3
 have hB3 := hB2.on b3
 have B3 := B2.on b3
 have f3 := Shp.rd_on f2 b3
 have hO3 := hO2.on (Nat.le_refl _) b3
 have hsz3 : gb < w3.heap.size := B3.lt
 clear b3 hT2 hB2 B2 f2 hO2 b2
 have b5 : Below w3.heap.size w3 ((w3.alloc (.cells #[.int .i64 0] 3)).alloc (.cells (kS.v k) 201)) := (below_alloc_ _ _).alloc (by simp) _
 have A5 : Blk ((w3.alloc (.cells #[.int .i64 0] 3)).alloc (.cells (kS.v k) 201)) w3.heap.size 3 #[.int .i64 0] := (Blk.new w3 _ _).alloc _
 have R5 : kS.rd ((w3.alloc (.cells #[.int .i64 0] 3)).alloc (.cells (kS.v k) 201)) ⟨w3.heap.size + 1, 0, none⟩ = some k := Shp.rd_new _ _ _ _ (by simp)
 have tn5 : Shp.tn 25 ((w3.alloc (.cells #[.int .i64 0] 3)).alloc (.cells z25 201)) (w3.heap.size + 1) = true := Shp.tn_new _ _ _ _ _ (by simp) rfl
 have f5 := Shp.rd_on f3 b5
 have hT5 := hT3.on b5
 have hB5 := hB3.on b5
 have B5 := B3.on b5
 have hO5 := hO3.on (Nat.le_refl _) b5
 have hsz5 : ((w3.alloc (.cells #[.int .i64 0] 3)).alloc (.cells (kS.v k) 201)).heap.size = w3.heap.size + 2 := by simp
 obtain ⟨wb, hwb⟩ : ∃ wb, ((w3.alloc (.cells #[.int .i64 0] 3)).alloc (.cells (kS.v k) 201)) = wb := ⟨_, rfl⟩
 clear hT3 hB3 B3 hO3 f3 b5
 gi_wp2
 rw [hwb] at A5 R5 f5 hT5 hB5 B5 hO5 hsz5
 try rw [hwb]
 clear hwb tn5
 obtain ⟨gi, hgi⟩ : ∃ gi, w3.heap.size = gi := ⟨_, rfl⟩
 try rw [hgi]
 rw [hgi] at A5 R5 hsz3 hsz5
 have HS5 := Lib.hid hsz5
 clear hsz5
 rw [f5]
 rename_i hKK
 refine hKK _ _ ?_
 clear hKK
 gi_wp2
 refine ⟨trivial, ?_⟩
 refine (callsIn_wide.2 (CP.out _)).mono ?_
 rintro e w6 ⟨rfl, hw6⟩
 have b6 : Below wb.heap.size wb w6 := by rw [hw6]; exact ((below_alloc_ _ _).alloc (by simp) _).alloc (by simp; omega) _
 have hz6 : w6.heap.size = wb.heap.size + 3 := by rw [hw6]; simp
 have ht6 : w6.cell? ⟨wb.heap.size, 0, none⟩ = some (.pointer (some ⟨g, 0, none⟩)) := by
  rw [hw6]
  exact cell_kept_ (below_alloc_ _ _) (cell_kept_ (below_alloc_ _ _) (Blk.new wb _ _).cell)
 have hk6 : kS.rd w6 ⟨wb.heap.size + 1, 0, none⟩ = some k := by
  rw [hw6]
  exact Shp.rd_on (Shp.rd_new (S := kS) _ _ _ _ (by simp)) (below_alloc_ _ _)
 have hb6 : w6.cell? ⟨wb.heap.size + 2, 0, none⟩ = some (.int .i64 200) := by
  rw [hw6]
  have := (Blk.new ((wb.alloc (.cells #[.pointer (some ⟨g, 0, none⟩)] 125)).alloc (.cells (kS.v k) 39)) 3 #[.int .i64 200]).cell
  simpa using this
 clear hw6
 have hT6 := hT5.on b6
 have hB6 := hB5.on b6
 have B6 := B5.on b6
 have A6 := A5.on b6
 have R6 := Shp.rd_on R5 b6
 have f6 := Shp.rd_on f5 b6
 have hO6 := hO5.on (Nat.le_refl _) b6
 have hgg := hT6.lt
 have l1 := B6.lt
 have l2 := A6.lt
 have l3 := Shp.rd_lt R6
 have nbi : gb ≠ gi := blk_ne B6 A6 (by decide)
 have hX : ∀ u, some t = some u → ∀ q ∈ u.bl, q < w6.heap.size ∧ q ∉ [gb, gi] := fun u e q hq => by
  obtain ⟨cs, hB⟩ := (hT6.nd u e).lt q hq
  refine ⟨hB.lt, fun c => ?_⟩
  simp only [List.mem_cons, List.not_mem_nil, or_false] at c
  rcases c with c | c
  ·exact blk_ne hB B6 (by decide) c
  ·exact blk_ne hB A6 (by decide) c
 have hgX : g ∉ [gb, gi] := by
  simp only [List.mem_cons, List.not_mem_nil, or_false, not_or]
  exact ⟨blk_ne hB6 B6 (by decide), blk_ne hB6 A6 (by decide)⟩
 have hx1 : gi + 1 ∉ [gb, gi] := by simp only [List.mem_cons, List.not_mem_nil, or_false, not_or]; omega
 have hwX : w.heap.size ∉ [gb, gi] := by simp only [List.mem_cons, List.not_mem_nil, or_false, not_or]; have := HZ.out; omega
 have hcap : wb.heap.size + 2 < w6.heap.size ∧ wb.heap.size + 2 ∉ [gb, gi] := ⟨by omega, by have := HS5.out; simp; omega⟩
 have HZ6 := Lib.hid hz6
 clear hT5 hB5 B5 A5 R5 f5 hO5 hz6
 gi_wp2
 refine wpIn_rangeFunc_ownH rfl (by decide) (gf := 165) (lb := #[.pointer (some ⟨wb.heap.size + 1, 0, none⟩), .pointer (some ⟨wb.heap.size, 0, none⟩), .pointer (some ⟨wb.heap.size + 2, 0, none⟩)]) rfl trivial (enters_of Tryz.func165 (by kernel_rfl) rfl)
  (psd_stops 9 (by decide) (wb.heap.size + 1) wb.heap.size (wb.heap.size + 2) g k 200 (by omega) (some t) w6.heap.size [gb, gi] w6 hk6 ht6 hb6 hT6 hcap hX (Nat.le_refl _)) (fun h k => h.trans k) (fun W l o o' h1 h2 h3 _ => Kp.put W l o o' h1 h2 h3) (Below.refl _ _) (fun _ => rfl)
  (fun pre W => Ov w6.heap.size [gb, gi] w6 W ∧ Blk W gb 175 #[.pointer (lft k (pre.map (·.1)))] ∧ Blk W gi 3 #[.int .i64 (lbt (pre.map (·.1)) : Nat)]) (fun _ _ _ => False)
  (fun s W W' row hs hg hr => ⟨hs.1.grown (Nat.le_refl _) hg fun r e => .inl (hr r e).1, (blk_own (t := 175) (fun s : List { u : Tk // u ∈ pth k 200 (some t) } => #[.pointer (lft k (s.map (·.1)))])) s W W' row hs.2.1 hg hr, (blk_own (t := 3) (fun s : List { u : Tk // u ∈ pth k 200 (some t) } => #[.int .i64 (lbt (s.map (·.1)) : Nat)])) s W W' row hs.2.2 hg hr⟩) (fun _ _ _ _ _ hs _ _ => hs) ⟨Ov.refl _ _ _, B6, A6⟩
  (fun y a' W => a' = { tmps := #[.pointer (some ⟨g, 0, none⟩), .agg (kS.v k), undef, .pointer (some ⟨w.heap.size, 0, none⟩), .pointer (some ⟨gb, 0, none⟩), .pointer (some ⟨gi, 0, none⟩), .pointer (some ⟨gi + 1, 0, none⟩), .pointer (some ⟨y.1.ad, 0, none⟩), .pointer (some ⟨g, 0, none⟩), .pointer (some ⟨g, 0, none⟩), .pointer (some ⟨g, 1, none⟩), .int .i64 (n : Nat), .int .i64 ((n : Int) - 1), .pointer (some ⟨g, 0, none⟩), .pointer (some ⟨g, 1, none⟩), .agg (kS.v k), .agg (kS.v k), .pointer (some ⟨g, 0, none⟩), .agg (kS.v k), .func (.func 165) #[] #[.pointer (some ⟨wb.heap.size + 1, 0, none⟩), .pointer (some ⟨wb.heap.size, 0, none⟩), .pointer (some ⟨wb.heap.size + 2, 0, none⟩)], .pointer (some ⟨y.1.ad, 0, none⟩), undef, undef, undef, undef, undef, undef, undef, undef, undef, undef, undef, undef, undef, undef, undef, undef, undef, undef, undef, undef, undef, undef], defers := [] })
  (fun _ _ _ _ _ _ hs _ _ => hs) ?assign ?body ?done ?stop
 case assign =>
  rintro l pre y W K hI hK
  gi_wp2
  exact hK _ _ (KeepsFrom.refl _ _) (Kp.refl _ _ _) hI rfl
 case body =>
  rintro l pre y a' W hl ⟨r2, hr2⟩ ⟨hO, hB, hI⟩ rfl hlt
  obtain ⟨m1, m2, m3, u, m4, m5⟩ := hT6.mem y.2
  have hbl : ∀ q ∈ y.1.bl, q < w6.heap.size ∧ q ∉ [gb, gi] := fun q hq => hX u m4 q (m5 q hq)
  have hN := hO.nd m1 hbl
  have c0 := hN.nf.bit
  have c1 : kS.rd W ⟨gi + 1, 0, none⟩ = some k := (Shp.rd_to (hO.block (gi + 1) l3 hx1)).trans R6
  have lx1 := Shp.rd_lt c1
  have l0 := hN.nf.lt
  have C1 := Lib.hid (fun w => CSi.out y.1.bit (by omega) w)
  have HB := Lib.hid hB
  have HI := Lib.hid hI
  have HO := Lib.hid hO
  have hmix : Tryz.prog.follows .mixedOrders = true := by kernel_rfl
  have sw : Below W.heap.size W W.drew := (Below.refl _ _).drew
  have sv : Ov W.heap.size [gb, gi] W W.drew := (Ov.refl _ _ _).on (Nat.le_refl _) sw
  have hy7 := (hbl y.1.ad y.1.ad_mem).2
  obtain ⟨ka, hka⟩ : ∃ ka, pt (kid y.1 (!Cr.Bits.bt k y.1.bit)) = ka := ⟨_, rfl⟩
  have hk2 : ∀ c : Bool, Cr.Bits.bt k y.1.bit = c → W.cell? ⟨y.1.ad, if c then 1 else 2, none⟩ = some (.pointer ka) := by
   intro c e
   rw [← hka, e]
   have e1 := hN.nf.lo
   have e2 := hN.nf.hi
   have m3' := m3
   generalize y.1 = z at e1 e2 m3'
   cases z with
   | lf a x v => simp only [Cr.Tr.bit] at m3'; omega
   | br a b l r =>
    cases c
    ·exact e2
    ·exact e1
  have hbb := show (Cr.Bits.bt k y.1.bit = true ∧ D.sd k y.1.bit = 1) ∨ (Cr.Bits.bt k y.1.bit = false ∧ D.sd k y.1.bit = 0) from by
   unfold D.sd
   cases Cr.Bits.bt k y.1.bit
   ·exact .inr ⟨rfl, rfl⟩
   ·exact .inl ⟨rfl, rfl⟩
  clear hN hB hI hX m1 m2 m3 m4 m5
  have HK2 := Lib.hid hk2
  clear hk2
  obtain ⟨sd, hsd⟩ : ∃ sd, D.sd k y.1.bit = sd := ⟨_, rfl⟩
  rw [hsd] at C1 hbb
  clear hsd
  have key : ∀ w' : World, (∃ w4, Below W.heap.size W w4 ∧ w' = (w4.setCell ⟨gi, 0, none⟩ (.int .i64 (y.1.bit : Nat))).setCell ⟨gb, 0, none⟩ (.pointer ka)) →
    KeepsOthers W w' ∧ Kp w6.heap.size [gb, gi] W w' ∧ Ov w6.heap.size [gb, gi] w6 w' ∧ Blk w' gb 175 #[.pointer (lft k ((pre ++ [y]).map (·.1)))] ∧ Blk w' gi 3 #[.int .i64 (lbt ((pre ++ [y]).map (·.1)) : Nat)] := by
   rintro w' ⟨w4, b4, rfl⟩
   have hI4 := HI.out.on b4
   have hB4 := HB.out.on b4
   have hB5 : Blk (w4.setCell ⟨gi, 0, none⟩ (.int .i64 (y.1.bit : Nat))) gb 175 #[.pointer (lft k (pre.map (·.1)))] := ⟨(Below.heap_setCell _ _ _ gb nbi).trans hB4.out⟩
   have K1 : KeepsOthers W w4 := KeepsOthers.of_grownBy (grown_none b4) (fun j o e h => by cases e)
   rw [List.map_append, List.map_cons, List.map_nil, lft_app, lbt_app, hka]
   exact ⟨(K1.trans (KeepsOthers.setCell _ _ _)).trans (KeepsOthers.setCell _ _ _), ((Kp.below b4 HO.out.size).trans (Kp.set _ _ _ _ (by simp) hI4 (by decide))).trans (Kp.set _ _ _ _ (by simp) hB5 (by decide)), ((HO.out.on (Nat.le_refl _) b4).set (by simp) _).set (by simp) _, hB5.set_ _, ⟨(Below.heap_setCell _ _ _ gi (fun e => nbi e.symm)).trans (hI4.set_ _).out⟩⟩
  have KEY := Lib.hid key
  clear key hka
  rcases hbb with ⟨hb1, rfl⟩ | ⟨hb1, rfl⟩
  ·have ck := HK2.out true hb1
   simp only [if_true] at ck
   gi_wp2
   refine region_round (S := fun V => Ov W.heap.size [gb, gi] W V) (R := fun _ w' => ∃ w4, Below W.heap.size W w4 ∧ w' = (w4.setCell ⟨gi, 0, none⟩ (.int .i64 (y.1.bit : Nat))).setCell ⟨gb, 0, none⟩ (.pointer ka)) hmix (by kernel_rfl) sv (fun sd0 => ?_) ?_
   refine takeT 0 (some 21) ?vb10 ?hyb10 sd0 ?restb10
   case hyb10 => (intro o ho W hW; simp only [gT, gS, gZ, sI] at ho; subst ho; (try dsimp only at hW); go_simp; try rfl)
   try simp only [Act.put, iT, iZ, iS]
   refine takeT 1 (some 22) ?vb11 ?hyb11 sd0 ?restb11
   case hyb11 => (intro o ho W hW; simp only [gT, gS, gZ, sI] at ho; subst ho; (try dsimp only at hW); go_simp; try rfl)
   try simp only [Act.put, iT, iZ, iS]
   refine takeT 2 (some 23) ?vb12 ?hyb12 sd0 ?restb12
   case hyb12 => (intro o ho W hW; simp only [gT, gS, gZ, sI] at ho; subst ho; (try dsimp only at hW); go_simp; try rfl)
   try simp only [Act.put, iT, iZ, iS]
   refine takeT 3 (some 24) ?vb13 ?hyb13 sd0 ?restb13
   case hyb13 => (intro o ho W hW; simp only [gT, gS, gZ, sI] at ho; subst ho; (try dsimp only at hW); have g2 := (World.cell?_of_block (hW.block y.1.ad l0 hy7)).trans c0; go_simp; try rfl)
   try simp only [Act.put, iT, iZ, iS]
   refine takeT 4 (some 25) ?vb14 ?hyb14 sd0 ?restb14
   case hyb14 => (intro o ho W hW; simp only [gT, gS, gZ, sI] at ho; subst ho; (try dsimp only at hW); go_simp; try rfl)
   try simp only [Act.put, iT, iZ, iS]
   refine takeT 5 (some 26) ?vb15 ?hyb15 sd0 ?restb15
   case hyb15 => (intro o ho W hW; simp only [gT, gS, gZ, sI] at ho; subst ho; (try dsimp only at hW); have g1 := (Shp.rd_to (hW.block (gi + 1) lx1 hx1)).trans c1; go_simp; try rfl)
   try simp only [Act.put, iT, iZ, iS]
   refine takeT 6 (some 27) ?vb16 ?hyb16 sd0 ?restb16
   case hyb16 => (intro o ho W hW; simp only [gT, gS, gZ, sI] at ho; subst ho; (try dsimp only at hW); go_simp; try rfl)
   try simp only [Act.put, iT, iZ, iS]
   refine takeT 7 (some 28) ?vb17 ?hyb17 sd0 ?restb17
   case hyb17 => (intro o ho W hW; simp only [gT, gS, gZ, sI] at ho; subst ho; (try dsimp only at hW); go_simp; try rfl)
   try simp only [Act.put, iT, iZ, iS]
   refine takeT 8 (some 29) ?vb18 ?hyb18 sd0 ?restb18
   case hyb18 => (intro o ho W hW; simp only [gT, gS, gZ, sI] at ho; subst ho; (try dsimp only at hW); go_simp; try rfl)
   try simp only [Act.put, iT, iZ, iS]
   refine takeT 9 (some 30) ?vb19 ?hyb19 sd0 ?restb19
   case hyb19 => (intro o ho W hW; simp only [gT, gS, gZ, sI] at ho; subst ho; (try dsimp only at hW); have g2 := (World.cell?_of_block (hW.block y.1.ad l0 hy7)).trans c0; go_simp; try rfl)
   try simp only [Act.put, iT, iZ, iS]
   refine takeT 12 (some 33) ?vb112 ?hyb112 sd0 ?restb112
   case hyb112 => (intro o ho W hW; simp only [gT, gS, gZ, sI] at ho; subst ho; (try dsimp only at hW); go_simp; try rfl)
   try simp only [Act.put, iT, iZ, iS]
   refine takeT 13 (some 34) ?vb113 ?hyb113 sd0 ?restb113
   case hyb113 => (intro o ho W hW; simp only [gT, gS, gZ, sI] at ho; subst ho; (try dsimp only at hW); go_simp; try rfl)
   try simp only [Act.put, iT, iZ, iS]
   refine nextS 10 (by kernel_rfl) (by rfl) (fun o ho K hK => ?_)
   simp only [gT, gS, gZ, sI] at ho; subst ho
   go_simp
   (go_at_call 132; (with_reducible refine (C1.out _).mono ?_); rintro e w4 ⟨rfl, b4⟩)
   have s4 : Below W.heap.size W w4 := below_up sw sw.size b4
   have s5 := sv.on (Nat.le_refl _) b4
   refine hK.out _ _ s5 (fun _ => ?_)
   clear hK K
   try simp only [Act.put, iT, iZ, iS]
   refine takeT 11 (some 32) (.int .i64 0) ?hyb111 s5 ?restb111
   case hyb111 => (intro o ho W hW; simp only [gT, gS, gZ, sI] at ho; subst ho; (try dsimp only at hW); go_simp; try rfl)
   try simp only [Act.put, iT, iZ, iS]
   refine takeT 14 (some 35) (.pointer (some ⟨y.1.ad, 1, none⟩)) ?hyb114 s5 ?restb114
   case hyb114 => (intro o ho W hW; simp only [gT, gS, gZ, sI] at ho; subst ho; (try dsimp only at hW); go_simp; try rfl)
   try simp only [Act.put, iT, iZ, iS]
   refine takeT 15 (some 36) ?vb115 ?hyb115 s5 ?restb115
   case hyb115 => (intro o ho W hW; simp only [gT, gS, gZ, sI] at ho; subst ho; (try dsimp only at hW); have g3 := (World.cell?_of_block (hW.block y.1.ad l0 hy7)).trans ck; go_simp; try rfl)
   try simp only [Act.put, iT, iZ, iS]
   have I4 := HI.out.on s4
   have hc4 := I4.cell
   have hf4 := I4.free
   refine nextS 16 (by kernel_rfl) (by rfl) (fun o ho K hK => ?_)
   simp only [gT, gS, gZ, sI] at ho; subst ho
   go_simp
   have s6 := s5.set (a := ⟨gi, 0, none⟩) (by simp) (.int .i64 (y.1.bit : Nat))
   refine hK.out _ _ s6 (fun _ => ?_)
   clear hK K
   try simp only [Act.put, iT, iZ, iS]
   have B4 : Blk (w4.setCell ⟨gi, 0, none⟩ (.int .i64 (y.1.bit : Nat))) gb 175 #[.pointer (lft k (pre.map (·.1)))] := ⟨(Below.heap_setCell _ _ _ gb nbi).trans (HB.out.on s4).out⟩
   have hc5 := B4.cell
   have hf5 := B4.free
   refine nextS 17 (by kernel_rfl) (by rfl) (fun o ho K hK => ?_)
   simp only [gT, gS, gZ, sI] at ho; subst ho
   go_simp
   have s7 := s6.set (a := ⟨gb, 0, none⟩) (by simp) (.pointer ka)
   refine hK.out _ _ s7 (fun _ => ?_)
   clear hK K
   try simp only [Act.put, iT, iZ, iS]
   refine wpAnyH_done (by kernel_rfl) ?_ _
   exact ⟨w4, s4, rfl⟩
   rintro a' w' hw'
   obtain ⟨k1, k2, k3, k4, k5⟩ := KEY.out w' hw'
   exact ⟨k1.from _, k2, k3, k4, k5⟩
  ·have ck := HK2.out false hb1
   simp only [Bool.false_eq_true, if_false] at ck
   gi_wp2
   refine region_round (S := fun V => Ov W.heap.size [gb, gi] W V) (R := fun _ w' => ∃ w4, Below W.heap.size W w4 ∧ w' = (w4.setCell ⟨gi, 0, none⟩ (.int .i64 (y.1.bit : Nat))).setCell ⟨gb, 0, none⟩ (.pointer ka)) hmix (by kernel_rfl) sv (fun sd0 => ?_) ?_
   refine takeT 0 (some 21) ?vb00 ?hyb00 sd0 ?restb00
   case hyb00 => (intro o ho W hW; simp only [gT, gS, gZ, sI] at ho; subst ho; (try dsimp only at hW); go_simp; try rfl)
   try simp only [Act.put, iT, iZ, iS]
   refine takeT 1 (some 22) ?vb01 ?hyb01 sd0 ?restb01
   case hyb01 => (intro o ho W hW; simp only [gT, gS, gZ, sI] at ho; subst ho; (try dsimp only at hW); go_simp; try rfl)
   try simp only [Act.put, iT, iZ, iS]
   refine takeT 2 (some 23) ?vb02 ?hyb02 sd0 ?restb02
   case hyb02 => (intro o ho W hW; simp only [gT, gS, gZ, sI] at ho; subst ho; (try dsimp only at hW); go_simp; try rfl)
   try simp only [Act.put, iT, iZ, iS]
   refine takeT 3 (some 24) ?vb03 ?hyb03 sd0 ?restb03
   case hyb03 => (intro o ho W hW; simp only [gT, gS, gZ, sI] at ho; subst ho; (try dsimp only at hW); have g2 := (World.cell?_of_block (hW.block y.1.ad l0 hy7)).trans c0; go_simp; try rfl)
   try simp only [Act.put, iT, iZ, iS]
   refine takeT 4 (some 25) ?vb04 ?hyb04 sd0 ?restb04
   case hyb04 => (intro o ho W hW; simp only [gT, gS, gZ, sI] at ho; subst ho; (try dsimp only at hW); go_simp; try rfl)
   try simp only [Act.put, iT, iZ, iS]
   refine takeT 5 (some 26) ?vb05 ?hyb05 sd0 ?restb05
   case hyb05 => (intro o ho W hW; simp only [gT, gS, gZ, sI] at ho; subst ho; (try dsimp only at hW); have g1 := (Shp.rd_to (hW.block (gi + 1) lx1 hx1)).trans c1; go_simp; try rfl)
   try simp only [Act.put, iT, iZ, iS]
   refine takeT 6 (some 27) ?vb06 ?hyb06 sd0 ?restb06
   case hyb06 => (intro o ho W hW; simp only [gT, gS, gZ, sI] at ho; subst ho; (try dsimp only at hW); go_simp; try rfl)
   try simp only [Act.put, iT, iZ, iS]
   refine takeT 7 (some 28) ?vb07 ?hyb07 sd0 ?restb07
   case hyb07 => (intro o ho W hW; simp only [gT, gS, gZ, sI] at ho; subst ho; (try dsimp only at hW); go_simp; try rfl)
   try simp only [Act.put, iT, iZ, iS]
   refine takeT 8 (some 29) ?vb08 ?hyb08 sd0 ?restb08
   case hyb08 => (intro o ho W hW; simp only [gT, gS, gZ, sI] at ho; subst ho; (try dsimp only at hW); go_simp; try rfl)
   try simp only [Act.put, iT, iZ, iS]
   refine takeT 9 (some 30) ?vb09 ?hyb09 sd0 ?restb09
   case hyb09 => (intro o ho W hW; simp only [gT, gS, gZ, sI] at ho; subst ho; (try dsimp only at hW); have g2 := (World.cell?_of_block (hW.block y.1.ad l0 hy7)).trans c0; go_simp; try rfl)
   try simp only [Act.put, iT, iZ, iS]
   refine takeT 12 (some 33) ?vb012 ?hyb012 sd0 ?restb012
   case hyb012 => (intro o ho W hW; simp only [gT, gS, gZ, sI] at ho; subst ho; (try dsimp only at hW); go_simp; try rfl)
   try simp only [Act.put, iT, iZ, iS]
   refine takeT 13 (some 34) ?vb013 ?hyb013 sd0 ?restb013
   case hyb013 => (intro o ho W hW; simp only [gT, gS, gZ, sI] at ho; subst ho; (try dsimp only at hW); go_simp; try rfl)
   try simp only [Act.put, iT, iZ, iS]
   refine nextS 10 (by kernel_rfl) (by rfl) (fun o ho K hK => ?_)
   simp only [gT, gS, gZ, sI] at ho; subst ho
   go_simp
   (go_at_call 132; (with_reducible refine (C1.out _).mono ?_); rintro e w4 ⟨rfl, b4⟩)
   have s4 : Below W.heap.size W w4 := below_up sw sw.size b4
   have s5 := sv.on (Nat.le_refl _) b4
   refine hK.out _ _ s5 (fun _ => ?_)
   clear hK K
   try simp only [Act.put, iT, iZ, iS]
   refine takeT 11 (some 32) (.int .i64 1) ?hyb011 s5 ?restb011
   case hyb011 => (intro o ho W hW; simp only [gT, gS, gZ, sI] at ho; subst ho; (try dsimp only at hW); go_simp; try rfl)
   try simp only [Act.put, iT, iZ, iS]
   refine takeT 14 (some 35) (.pointer (some ⟨y.1.ad, 2, none⟩)) ?hyb014 s5 ?restb014
   case hyb014 => (intro o ho W hW; simp only [gT, gS, gZ, sI] at ho; subst ho; (try dsimp only at hW); go_simp; try rfl)
   try simp only [Act.put, iT, iZ, iS]
   refine takeT 15 (some 36) ?vb015 ?hyb015 s5 ?restb015
   case hyb015 => (intro o ho W hW; simp only [gT, gS, gZ, sI] at ho; subst ho; (try dsimp only at hW); have g3 := (World.cell?_of_block (hW.block y.1.ad l0 hy7)).trans ck; go_simp; try rfl)
   try simp only [Act.put, iT, iZ, iS]
   have I4 := HI.out.on s4
   have hc4 := I4.cell
   have hf4 := I4.free
   refine nextS 16 (by kernel_rfl) (by rfl) (fun o ho K hK => ?_)
   simp only [gT, gS, gZ, sI] at ho; subst ho
   go_simp
   have s6 := s5.set (a := ⟨gi, 0, none⟩) (by simp) (.int .i64 (y.1.bit : Nat))
   refine hK.out _ _ s6 (fun _ => ?_)
   clear hK K
   try simp only [Act.put, iT, iZ, iS]
   have B4 : Blk (w4.setCell ⟨gi, 0, none⟩ (.int .i64 (y.1.bit : Nat))) gb 175 #[.pointer (lft k (pre.map (·.1)))] := ⟨(Below.heap_setCell _ _ _ gb nbi).trans (HB.out.on s4).out⟩
   have hc5 := B4.cell
   have hf5 := B4.free
   refine nextS 17 (by kernel_rfl) (by rfl) (fun o ho K hK => ?_)
   simp only [gT, gS, gZ, sI] at ho; subst ho
   go_simp
   have s7 := s6.set (a := ⟨gb, 0, none⟩) (by simp) (.pointer ka)
   refine hK.out _ _ s7 (fun _ => ?_)
   clear hK K
   try simp only [Act.put, iT, iZ, iS]
   refine wpAnyH_done (by kernel_rfl) ?_ _
   exact ⟨w4, s4, rfl⟩
   rintro a' w' hw'
   obtain ⟨k1, k2, k3, k4, k5⟩ := KEY.out w' hw'
   exact ⟨k1.from _, k2, k3, k4, k5⟩
 case done =>
  rintro D0 ys W hD hp ⟨hO, hB, hI⟩ hK
  rw [hp] at hB hI
  have hTW : TR W g (some t) := hT6.ov hO (fun q hq => by
   rcases List.mem_cons.1 hq with rfl | hq
   ·exact ⟨hgg, hgX⟩
   ·exact hX t rfl q hq)
  have hBW : Blk W g 177 #[.pointer (pt (some t)), .int .i64 ((n : Int) - 1)] := ⟨(hO.block g hgg hgX).trans hB6.out⟩
  have fW : kS.rd W ⟨w.heap.size, 0, none⟩ = some k := (Shp.rd_to (hO.block w.heap.size (by have := HZ.out; omega) hwX)).trans f6
  have lW := Shp.rd_lt fW
  have lB := hB.lt
  have lI := hI.lt
  have hcB := hB.cell
  have hcI := hI.cell
  have hle := lbt_le hTW (k := k) (fun y hy => hy)
  obtain ⟨d, hd⟩ : ∃ d, lbt (pth k 200 (some t)) = d := ⟨_, rfl⟩
  obtain ⟨ka, hka⟩ : ∃ ka, lft k (pth k 200 (some t)) = ka := ⟨_, rfl⟩
  rw [hd] at hcI hle
  rw [hka] at hcB
  have CPl := Lib.hid (fun w hT => place_any g (some t) k d hle w hT)
  have HO := Lib.hid hO
  have HBW := Lib.hid hBW
  clear hO hB hI hBW
  have hdel := fun W8 (hT8 : TR W8 g (some t)) (hB8 : Blk W8 g 177 #[.pointer (pt (some t)), .int .i64 ((n : Int) - 1)]) => tr_del hT8 HK.out hB8
  rw [hd, hka] at hdel
  have hpb : ∀ W8, TR W8 g (some t) → (plc k ⟨g, 0, none⟩ (pth k d (some t))).block ∈ g :: t.bl := fun W8 h8 => plc_blk h8
  have hpf : ∀ W8, TR W8 g (some t) → W8.frozen? (plc k ⟨g, 0, none⟩ (pth k d (some t))) = false := fun W8 h8 => h8.free
  have hpc : ∀ W8, TR W8 g (some t) → W8.cell? (plc k ⟨g, 0, none⟩ (pth k d (some t))) = some (.pointer (pt (subo k d (some t)))) := fun W8 h8 => h8.sub_cell hle
  obtain ⟨p, ep⟩ : ∃ p, plc k ⟨g, 0, none⟩ (pth k d (some t)) = p := ⟨_, rfl⟩
  rw [ep] at hdel hpb hpf hpc CPl
  have HDEL := Lib.hid hdel
  have HPB := Lib.hid hpb
  have HPF := Lib.hid hpf
  have HPC := Lib.hid hpc
  have HD := Lib.hid hD
  have HKD := Lib.hid hK
  clear hdel hpb hpf hpc ep hd hka hp
  gi_wp2
  have hmix : Tryz.prog.follows .mixedOrders = true := by kernel_rfl
  have hall := HT.out.tr.all_lt
  have q1 : w.heap.size ∉ g :: t.bl := fun e => Nat.lt_irrefl _ (hall _ e)
  have q2 : gi ∉ g :: t.bl := fun e => by have := hall _ e; have := HZ.out; omega
  have q3 : gb ∉ g :: t.bl := fun e => by have := hall _ e; have := HZ.out; omega
  have sw : Below W.heap.size W W.drew := (Below.refl _ _).drew
  have sv : Ov W.heap.size (g :: t.bl) W W.drew := (Ov.refl _ _ _).on (Nat.le_refl _) sw
  have hpb := HPB.out W hTW
  clear hall
  refine region_wide (S := fun V => Ov W.heap.size (g :: t.bl) W V) (R := fun a' w' => a' = { tmps := #[.pointer (some ⟨g, 0, none⟩), .agg (kS.v k), undef, .pointer (some ⟨w.heap.size, 0, none⟩), .pointer (some ⟨gb, 0, none⟩), .pointer (some ⟨gi, 0, none⟩), .pointer (some ⟨gi + 1, 0, none⟩), undef, .pointer (some ⟨g, 0, none⟩), .pointer (some ⟨g, 0, none⟩), .pointer (some ⟨g, 1, none⟩), .int .i64 (n : Nat), .int .i64 ((n : Int) - 1), .pointer (some ⟨g, 0, none⟩), .pointer (some ⟨g, 1, none⟩), .agg (kS.v k), .agg (kS.v k), .pointer (some ⟨g, 0, none⟩), .agg (kS.v k), .func (.func 165) #[] #[.pointer (some ⟨wb.heap.size + 1, 0, none⟩), .pointer (some ⟨wb.heap.size, 0, none⟩), .pointer (some ⟨wb.heap.size + 2, 0, none⟩)], undef, undef, undef, undef, undef, undef, undef, undef, undef, undef, undef, undef, undef, undef, undef, undef, undef, .pointer (some ⟨g, 0, none⟩), .agg (kS.v k), .int .i64 (d : Nat), .pointer (some p), .pointer ka, .pointer (some p)], defers := [{ target := .collected D0, args := #[] }] } ∧ ∃ w8, Below W.heap.size W w8 ∧ w' = w8.setCell p (.pointer ka)) hmix sv (fun sd0 => ?_) ?_
  refine takeT 0 (some 37) ?vd0 ?hyd0 sd0 ?restd0
  case hyd0 => (intro o ho W hW; simp only [gT, gS, gZ, sI] at ho; subst ho; (try dsimp only at hW); go_simp; try rfl)
  try simp only [Act.put, iT, iZ, iS]
  refine takeT 1 (some 38) ?vd1 ?hyd1 sd0 ?restd1
  case hyd1 => (intro o ho W hW; simp only [gT, gS, gZ, sI] at ho; subst ho; (try dsimp only at hW); have g1 := (Shp.rd_to (hW.block w.heap.size lW q1)).trans fW; go_simp; try rfl)
  try simp only [Act.put, iT, iZ, iS]
  refine takeT 2 (some 39) ?vd2 ?hyd2 sd0 ?restd2
  case hyd2 => (intro o ho W hW; simp only [gT, gS, gZ, sI] at ho; subst ho; (try dsimp only at hW); have g2 := (World.cell?_of_block (hW.block gi lI q2)).trans hcI; go_simp; try rfl)
  try simp only [Act.put, iT, iZ, iS]
  refine takeT 4 (some 41) ?vd4 ?hyd4 sd0 ?restd4
  case hyd4 => (intro o ho W hW; simp only [gT, gS, gZ, sI] at ho; subst ho; (try dsimp only at hW); have g3 := (World.cell?_of_block (hW.block gb lB q3)).trans hcB; go_simp; try rfl)
  try simp only [Act.put, iT, iZ, iS]
  refine nextS 3 (by kernel_rfl) (by rfl) (fun o ho K hK => ?_)
  simp only [gT, gS, gZ, sI] at ho; subst ho
  go_simp
  (go_at_call 105; (with_reducible refine (CPl.out _ (hTW.on sw)).mono ?_); rintro e w8 ⟨rfl, b8⟩)
  have t8 : Below W.heap.size W w8 := below_up sw sw.size b8
  have s8 := sv.on (Nat.le_refl _) b8
  have hT8 := hTW.on t8
  have hcp := HPC.out w8 hT8
  have hfp := HPF.out w8 hT8
  refine hK.out _ _ s8 (fun _ => ?_)
  clear hK K
  try simp only [Act.put, iT, iZ, iS]
  refine takeT 5 (some 42) ?vd5 ?hyd5 s8 ?restd5
  case hyd5 => (intro o ho W hW; simp only [gT, gS, gZ, sI] at ho; subst ho; (try dsimp only at hW); go_simp; try rfl)
  try simp only [Act.put, iT, iZ, iS]
  refine nextS 6 (by kernel_rfl) (by rfl) (fun o ho K hK => ?_)
  simp only [gT, gS, gZ, sI] at ho; subst ho
  go_simp
  have s9 := s8.set (a := p) hpb (.pointer ka)
  refine hK.out _ _ s9 (fun _ => ?_)
  clear hK K
  try simp only [Act.put, iT, iZ, iS]
  refine wpAnyH_done (by kernel_rfl) ?_ _
  exact ⟨rfl, w8, t8, rfl⟩
  rintro a' w' ⟨rfl, w8, b8, rfl⟩
  have hT8 := hTW.on b8
  have HH := Lib.hid (HDEL.out w8 hT8 (HBW.out.on b8))
  have HP8 := Lib.hid (HPB.out w8 hT8)
  have hD8 : D0 < W.heap.size := (Array.getElem?_eq_some_iff.1 HKD.out).1
  have hpD : D0 ≠ p.block := fun e => by
   have := hT6.all_lt _ HP8.out
   have := HD.out
   omega
  have hK8 : (w8.setCell p (.pointer ka)).heap[D0]? = some (.deferred (some [])) := (Below.heap_setCell _ _ _ D0 hpD).trans ((b8.block D0 hD8).trans HKD.out)
  gi_wp2
  refine ⟨by simp, .inl ⟨_, _, rfl, run_takeDeferred hK8, ?_⟩⟩
  obtain ⟨t1, t2, t3, t4⟩ := HH.out
  have hD0 := HD.out
  have hzw : w.heap.size ≤ w6.heap.size := hO6.size
  have hzz := HZ.out
  have hOF : Ov w6.heap.size [] (w8.setCell p (.pointer ka)) ((w8.setCell p (.pointer ka)).putObj D0 (.deferred none)) := (Ov.refl _ _ _).put hD0 _
  have tF := t1.ov hOF (fun q hq => ⟨by
   rcases List.mem_cons.1 hq with rfl | hq
   ·exact hgg
   ·exact (hX t rfl q (t4 q hq)).1, by simp⟩)
  have bF : Blk ((w8.setCell p (.pointer ka)).putObj D0 (.deferred none)) g 177 #[.pointer (pt (t.del k)), .int .i64 ((n : Int) - 1)] := ⟨(hOF.block g hgg (by simp)).trans t2.out⟩
  have hlen : ((Cr.Tr.lso (t.del k)).length : Int) = (n : Int) - 1 := by
   have hw := HT.out.tr.wf t rfl
   have h1 := Cr.del_len (Cr.Tr.sorted hw) (Cr.has_iff.2 ((Cr.Tr.near_is hw).1 HK.out))
   have h2 : t.ls.length = n := hn
   rw [t3]
   omega
  have hOW : Ov w.heap.size (g :: t.bl) w6 W := ⟨HO.out.os, HO.out.tape, HO.out.output, HO.out.size, fun q h1 h2 => HO.out.block q (by omega) (by simp; omega)⟩
  exact ⟨_, results_none rfl _ _ _, ⟨_, rfl⟩, TC.of tF (by rw [hlen]; exact bF), t3, t4, (((hO6.trans hOW).on (Nat.le_refl _) b8).set HP8.out _).put (by omega) _⟩
 case stop =>
  rintro D0 c pre W _ _ h _
  exact h.elim
end Go.Proofs.YtjlaffgbmcpldaaGreatDoor
