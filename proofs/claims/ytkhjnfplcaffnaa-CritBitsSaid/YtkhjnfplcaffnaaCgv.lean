/-
  The leaves of a node, given one by one.
-/
import Derived.Test.YtkhjnfplcaffnaaCad
set_option linter.unusedVariables false
set_option linter.unusedSimpArgs false
set_option maxRecDepth 100000
namespace Go.Proofs.Ytkhjnfplcaffnaa
open Go.RowKit Go.Shelf
attribute [local go_sem] Oper.semAt_some
attribute [local go_sem ↓] Go.wp_at_zero Go.wp_at_succ ld_k lv_k st_k eq_k ne_k bd_k ld_b lv_b st_b eq_b ne_b bd_25 ld_r lv_r st_rk eq_rk ne_rk bd_r ld_p lv_p st_px bd_p Nm.ld_a Nm.ld_n Nm.st_a Nm.st_n Nm.eq_a Nm.eq_n Nm.ne_a Nm.ne_n Nm.lv_a Nm.lv_n ld_a ld_n st_a st_n eq_a eq_n ne_a ne_n lv_a lv_n ld_l lv_l st_l bd_l bd_n bs_l bs_k
attribute [local go_sem] run_ldk run_lvk run_stk run_eqk run_nek run_bdk_z run_ldb run_lvb run_stb run_eqb run_neb run_ldr run_lvr run_strk run_eqrk run_nerk run_bdr_z run_ldp run_lvp run_stpx Nm.run_ld_a Nm.run_ld_n Nm.run_st_n Nm.run_eq_a Nm.run_eq_n Nm.run_ne_a Nm.run_ne_n Nm.run_lv_a Nm.run_lv_n Nm.rd_new Nm.rd_old Nm.rd_drew Nm.rd_drewN run_ld_a run_ld_n run_sw_a run_sw_n run_eq_a run_eq_n run_ne_a run_ne_n run_lv_a run_lv_n st_z ne_z eq_z rd_new rd_old rd_drew rd_drewN Shp.rd_new Shp.rd_old Shp.rd_drew Shp.rd_drewN Shp.rd_set Shp.tn_new Shp.tn_old Shp.tn_drew Shp.tn_drewN tn_new tn_old tn_drew tn_drewN rd_set setRow_alloc run_stn3 run_stt15 run_lvl run_ldl run_stl run_bdl run_bdn run_bdn0 run_bsl run_bsk Shp.rd_extk cell_ext

theorem round_any {P : Program} {l : Nat} {fn : FuncId} {tmps : Array Value} {assign body : Code} {W : World} {R : Ending → World → Prop} (m m' : Nat) (h : RoundIn Fence.wide m P l fn tmps assign body W R) : RoundIn Fence.wide m' P l fn tmps assign body W R := by
  exact ⟨h.1, fun c cs _ => h.2 c cs (room_wide _)⟩
theorem callsIn_any {P : Program} {f : FuncId} {args : Array Value} {W : World} {R : Ending → World → Prop} (m m' : Nat) (h : CallsIn Fence.wide m P f args W R) : CallsIn Fence.wide m' P f args W R := callsIn_wide.2 (callsIn_wide.1 h)
abbrev Lf := D.Ky × Int
/-- What giving leaves: all were taken, or it was stopped. -/
def Gv (J Jx : List Lf → World → Prop) (n0 : Nat) (X : List Nat) (pre l : List Lf) (W : World) (bb : Bool) (W' : World) : Prop :=
  if bb = true then J (pre ++ l) W' ∧ Kp n0 X W W' else ∃ p, p <+: pre ++ l ∧ p.length ≠ 0 ∧ Jx p W'
set_option maxHeartbeats 4000000 in
theorem gv_in (l n0 N : Nat) (X : List Nat) (J Jx : List Lf → World → Prop)
    (hY : ∀ pre (y : Lf) W1, J pre W1 → pre.length < N → YieldAt Fence.wide 5 Try.prog l #[.agg (lS.v y)] W1 fun e W' =>
      (e = .returned (.bool true) ∧ J (pre ++ [y]) W' ∧ Kp n0 X W1 W') ∨ (e = .returned (.bool false) ∧ Jx (pre ++ [y]) W')) :
    ∀ (t : Tk) (pre : List Lf) (W : World), Nd W t → t.wf → (∀ q ∈ t.bl, q < n0 ∧ q ∉ X) → J pre W → pre.length + t.ls.length ≤ N →
    CallsIn Fence.wide 5 Try.prog 54 #[.pointer (some ⟨t.ad, 0, none⟩), .func (.yield l) #[] #[]] W fun e W' => ∃ bb : Bool, e = .returned (.bool bb) ∧ Gv J Jx n0 X pre t.ls W bb W'
  | .lf a k v, pre, W, hN, hw, hbl, hJ, hlen => by
    have hnf := hN.nf
    have c0 := hnf.bit
    have c1 := hnf.leaf
    simp only [Cr.Tr.bit, Cr.Tr.ad, lfe, lop, hip] at c0 c1
    have hL : (Cr.Tr.lf a k v : Tk).ls = [(k, v)] := rfl
    rw [hL] at hlen ⊢
    have had : (Cr.Tr.lf a k v : Tk).ad = a := rfl
    rw [had]
    obtain ⟨fn, tmps, assign, body, hy, hR⟩ := hY pre (k, v) W hJ (by simp at hlen; omega)
    have hR2 := Lib.hid (RoundIn.mono (round_any 5 4 hR) fun e W' hh => show ∃ bb : Bool, e = .returned (.bool bb) ∧ Gv J Jx n0 X pre [(k, v)] W bb W' from by
      rcases hh with ⟨h1, h2⟩ | ⟨h1, h2⟩
      · exact ⟨true, h1, h2⟩
      · exact ⟨false, h1, _, List.prefix_rfl, by simp, h2⟩)
    clear hR hY hJ hN hbl hnf hlen hL had
    refine callsIn_of_wp Try.func54 rfl trivial ?_ rfl
    simp only [Try.ntmps54, List.size_toArray, List.length_cons, List.length_nil, Nat.reduceAdd, Nat.reduceSub, Array.replicate_succ, Array.replicate_zero, List.push_toArray, List.append_toArray, List.nil_append, List.cons_append]
    gi_wp2
    refine hR2.out.mono ?_
    rintro e W3 ⟨bb, rfl, hG⟩
    have HG := Lib.hid hG
    clear hG
    gi_wp2
    go_ret
    exact ⟨bb, rfl, HG.out⟩
  | .br a b x y, pre, W, hN, hw, hbl, hJ, hlen => by
    have hb := hw.1
    have hnf := hN.nf
    have c0 : W.cell? ⟨a, 0, none⟩ = some (.int .i64 (b : Nat)) := hnf.bit
    have c1 : W.cell? ⟨a, 1, none⟩ = some (.pointer (some ⟨x.ad, 0, none⟩)) := hnf.lo
    have c2 : W.cell? ⟨a, 2, none⟩ = some (.pointer (some ⟨y.ad, 0, none⟩)) := hnf.hi
    have hne : ¬ ((b : Int) = 200) := by omega
    have h1 : ∀ q ∈ x.bl, q < n0 ∧ q ∉ X := fun q hq => hbl q (by simp [Cr.Tr.bl, hq])
    have h2 : ∀ q ∈ y.bl, q < n0 ∧ q ∉ X := fun q hq => hbl q (by simp [Cr.Tr.bl, hq])
    have h0 := hbl a (by simp [Cr.Tr.bl])
    have hL : (Cr.Tr.br a b x y : Tk).ls = x.ls ++ y.ls := rfl
    rw [hL, List.length_append] at hlen
    have K1 := callsIn_any 5 4 (gv_in l n0 N X J Jx hY x pre W hN.2.1 hw.2.2.2.2.1 h1 hJ (by omega))
    have K2 := fun W1 (hJ1 : J (pre ++ x.ls) W1) (hK : Kp n0 X W W1) => callsIn_any 5 4 (gv_in l n0 N X J Jx hY y (pre ++ x.ls) W1 (hN.2.2.kept fun q hq => hK.old q (h2 q hq).1 (h2 q hq).2) hw.2.2.2.2.2 h2 hJ1 (by rw [List.length_append]; omega))
    rw [hL]
    have had : (Cr.Tr.br a b x y : Tk).ad = a := rfl
    rw [had]
    clear hL had hJ hN hbl hnf hlen h1 h2 hY hw
    obtain ⟨lx, hlx⟩ : ∃ lx, x.ls = lx := ⟨_, rfl⟩
    obtain ⟨ly, hly⟩ : ∃ ly, y.ls = ly := ⟨_, rfl⟩
    obtain ⟨ax, hax⟩ : ∃ ax, x.ad = ax := ⟨_, rfl⟩
    obtain ⟨ay, hay⟩ : ∃ ay, y.ad = ay := ⟨_, rfl⟩
    rw [hlx] at K1 K2
    rw [hly] at K2
    rw [hax] at K1 c1
    rw [hay] at K2 c2
    rw [hlx, hly]
    clear hlx hly hax hay
    have C1 := Lib.hid K1
    have C2 := Lib.hid K2
    clear K1 K2
    refine callsIn_of_wp Try.func54 rfl trivial ?_ rfl
    simp only [Try.ntmps54, List.size_toArray, List.length_cons, List.length_nil, Nat.reduceAdd, Nat.reduceSub, Array.replicate_succ, Array.replicate_zero, List.push_toArray, List.append_toArray, List.nil_append, List.cons_append]
    gi_wp2
    refine ⟨trivial, ?_⟩
    refine C1.out.mono ?_
    rintro e W1 ⟨bb, rfl, hG⟩
    cases bb with
    | false =>
      have HG : Kept (Gv J Jx n0 X pre (lx ++ ly) W false W1) := ⟨by
        obtain ⟨p, h1, h2, h3⟩ := hG
        exact ⟨p, h1.trans (by rw [← List.append_assoc]; exact List.prefix_append _ _), h2, h3⟩⟩
      clear hG
      gi_wp2
      refine ⟨trivial, ?_⟩
      gi_wp2
      go_ret
      exact ⟨false, rfl, HG.out⟩
    | true =>
      obtain ⟨hJ1, hK1⟩ := hG
      have c3 := (hK1.cell (a := ⟨a, 2, none⟩) h0.1 h0.2).trans c2
      have HK := Lib.hid hK1
      have C3 := Lib.hid (C2.out W1 hJ1 hK1)
      clear hK1 hJ1
      gi_wp2
      refine ⟨trivial, ?_⟩
      refine C3.out.mono ?_
      rintro e W2 ⟨bb, rfl, hG⟩
      have HG : Kept (Gv J Jx n0 X pre (lx ++ ly) W bb W2) := ⟨by
        unfold Gv at hG ⊢
        rw [List.append_assoc] at hG
        cases bb with
        | true => rw [if_pos rfl] at hG ⊢; exact ⟨hG.1, HK.out.trans hG.2⟩
        | false => exact hG⟩
      clear hG
      gi_wp2
      go_ret
      exact ⟨bb, rfl, HG.out⟩
theorem results_cc {fn : Func} {p q : Tmp} {ty tz : TypeId} (h : fn.results = #[.cell p ty, .cell q tz]) (tmps : Array Value) (P : Program) (w : World) :
    (results fn tmps).run P w = ((asAddr (tmps.getD p undef)).run P w).andThen fun a w1 => ((loadVar ty a).run P w1).andThen fun u w2 => ((asAddr (tmps.getD q undef)).run P w2).andThen fun b w3 => ((loadVar tz b).run P w3).andThen fun v w4 => .ok (.tuple #[u, v]) w4 := by
  simp only [results, h]
  simp [Sem.run_bind, Result.andThen]
theorem results_ct {fn : Func} {p q : Tmp} {ty : TypeId} (h : fn.results = #[.cell p ty, .tmp q]) (tmps : Array Value) (P : Program) (w : World) :
    (results fn tmps).run P w = ((asAddr (tmps.getD p undef)).run P w).andThen fun a w1 => ((loadVar ty a).run P w1).andThen fun u w2 => .ok (.tuple #[u, tmps.getD q undef]) w2 := by
  simp only [results, h]
  simp [Sem.run_bind, Result.andThen]
theorem lv_bool {w : World} {a : Addr} {b : Bool} (h : w.cell? a = some (.bool b)) : (loadVar 4 a).run Try.prog w = .ok (.bool b) w := by
  simp [loadVar, go_sem, h]
theorem gv_none (l : Nat) (W : World) : CallsIn Fence.wide 5 Try.prog 54 #[.pointer none, .func (.yield l) #[] #[]] W fun e W' => e = .returned (.bool true) ∧ W = W' := by
  refine callsIn_of_wp Try.func54 rfl trivial ?_ rfl
  simp only [Try.ntmps54, List.size_toArray, List.length_cons, List.length_nil, Nat.reduceAdd, Nat.reduceSub, Array.replicate_succ, Array.replicate_zero, List.push_toArray, List.append_toArray, List.nil_append, List.cons_append]
  gi_wp2
  go_ret
  exact ⟨rfl, rfl⟩
theorem within_any (p : Option Addr) (w : World) : Calls Try.prog 39 #[.pointer p] w fun e w' => e = .returned (.func (.func 53) #[] #[.pointer (some ⟨w.heap.size, 0, none⟩)]) ∧ w' = w.alloc (.cells #[.pointer p] 73) := by
  go_enter Try.func39, Try.ntmps39
  go_wp2
  go_ret
  exact ⟨rfl, rfl⟩
theorem wi_stops (n : Nat) (hn : 4 ≤ n) (B n0 : Nat) (X : List Nat) (o : Option Tk) (w : World) (hb : w.cell? ⟨B, 0, none⟩ = some (.pointer (pt o))) (hT : ∀ t, o = some t → Nd w t ∧ t.wf ∧ ∀ q ∈ t.bl, q < n0 ∧ q ∉ X) :
    SeqStopsK Fence.wide n Try.prog 53 #[.pointer (some ⟨B, 0, none⟩)] (fun y : Lf => #[.agg (lS.v y)]) (Kp n0 X) (fun ys => ys = Cr.Tr.lso o) (fun p => p <+: Cr.Tr.lso o ∧ p.length ≠ 0) (Cr.Tr.lso o).length w := fun l J Jx W hW hJ hJx hY h0 => by
  have hbW := cell_kept_ hW hb
  have hY5 : ∀ pre (y : Lf) W1, J pre W1 → pre.length < (Cr.Tr.lso o).length → YieldAt Fence.wide 5 Try.prog l #[.agg (lS.v y)] W1 fun e W' => (e = .returned (.bool true) ∧ J (pre ++ [y]) W' ∧ Kp n0 X W1 W') ∨ (e = .returned (.bool false) ∧ Jx (pre ++ [y]) W') := fun pre y W1 h1 h2 => by
    obtain ⟨fn, tmps, assign, body, h3, h4⟩ := hY pre y W1 h1 h2
    exact ⟨fn, tmps, assign, body, h3, round_any _ _ h4⟩
  have C : CallsIn Fence.wide 5 Try.prog 54 #[.pointer (pt o), .func (.yield l) #[] #[]] W fun e W' => ∃ bb : Bool, e = .returned (.bool bb) ∧ Gv J Jx n0 X [] (Cr.Tr.lso o) W bb W' := by
    cases o with
    | none =>
      refine (gv_none l W).mono ?_
      rintro e W' ⟨rfl, rfl⟩
      exact ⟨true, rfl, by unfold Gv; rw [if_pos rfl]; exact ⟨h0, Kp.refl _ _ _⟩⟩
    | some t =>
      obtain ⟨h1, h2, h3⟩ := hT t rfl
      exact gv_in l n0 _ X J Jx hY5 t [] W (h1.on hW) h2 h3 h0 (by simp [Cr.Tr.lso])
  have C := Lib.hid (callsIn_wide.1 C)
  clear hY hY5 hT hb hJ hJx h0
  refine callsIn_wide.2 ?_
  show Calls Try.prog 53 #[.func (.yield l) #[] #[], .pointer (some ⟨B, 0, none⟩)] W _
  go_enter Try.func53, Try.ntmps53
  go_wp2_with (go_at_call 54; (with_reducible refine C.out.mono ?_); rintro e w1 ⟨bb, rfl, hG⟩; have HG := Lib.hid hG; clear hG)
  go_end0
  refine ⟨⟨_, rfl⟩, ?_⟩
  have hG := HG.out
  unfold Gv at hG
  cases bb with
  | true => rw [if_pos rfl] at hG; exact .inl ⟨_, rfl, hG.1⟩
  | false =>
    rw [if_neg (by decide)] at hG
    obtain ⟨p, h1, h2, h3⟩ := hG
    exact .inr ⟨p, ⟨h1, h2⟩, h3⟩
/-- The first key of a tree. -/
def fk : Option Tk → D.Ky
  | none => D.zK
  | some t => t.hd.1
set_option maxHeartbeats 8000000 in
theorem first_any (o : Option Tk) (w : World) (hT : ∀ t, o = some t → Nd w t ∧ t.wf) : Calls Try.prog 37 #[.pointer (pt o)] w fun e w' => e = .returned (.tuple #[.agg (kS.v (fk o)), .bool o.isSome]) ∧ Below w.heap.size w w' := by
  have CI := Lib.hid (fun w => within_any (pt o) w)
  obtain ⟨w0, hw0⟩ : ∃ w0, (w.alloc (.cells z25 30)).alloc (.cells #[.bool false] 4) = w0 := ⟨_, rfl⟩
  have b0 : Below w.heap.size w w0 := by rw [← hw0]; exact (below_alloc_ _ _).alloc (by simp) _
  have HZ0 : Kept (w0.heap.size = w.heap.size + 2) := ⟨by rw [← hw0]; simp⟩
  have B2 : Blk w0 w.heap.size 30 (kS.v D.zK) := by rw [← hw0]; exact (Blk.new w _ _).alloc _
  have B3 : Blk w0 (w.heap.size + 1) 4 #[.bool false] := by
    rw [← hw0]
    have := Blk.new (w.alloc (.cells z25 30)) 4 #[.bool false]
    simpa using this
  unfold z25 at hw0
  refine (callsIn_wide (n := 10)).1 ?_
  refine callsIn_of_wp_marks Try.func37 rfl trivial ?_ rfl
  simp only [Try.ntmps37, List.size_toArray, List.length_cons, List.length_nil, Nat.reduceAdd, Nat.reduceSub, Array.replicate_succ, Array.replicate_zero, List.push_toArray, List.append_toArray, List.nil_append, List.cons_append]
  gi_wp2
  try rw [hw0]
  clear hw0
  refine ⟨trivial, ?_⟩
  refine (callsIn_wide.2 (CI.out _)).mono ?_
  rintro e w3 ⟨rfl, hw3⟩
  have b3 : Below w0.heap.size w0 w3 := by rw [hw3]; exact below_alloc_ _ _
  have hb3 : w3.cell? ⟨w0.heap.size, 0, none⟩ = some (.pointer (pt o)) := by rw [hw3]; exact (Blk.new w0 _ _).cell
  have HZ3 : Kept (w3.heap.size = w0.heap.size + 1) := ⟨by rw [hw3]; simp⟩
  clear hw3
  have hT3 : ∀ t, o = some t → Nd w3 t ∧ t.wf ∧ ∀ q ∈ t.bl, q < w3.heap.size ∧ q ∉ [w.heap.size, w.heap.size + 1] := fun t e => by
    obtain ⟨h1, h2⟩ := hT t e
    refine ⟨(h1.on b0).on b3, h2, fun q hq => ?_⟩
    obtain ⟨cs, hB⟩ := h1.lt q hq
    have := hB.lt
    have hz0 := HZ0.out
    have hz3 := HZ3.out
    refine ⟨by omega, ?_⟩
    simp only [List.mem_cons, List.not_mem_nil, or_false]
    omega
  have B23 := B2.on b3
  have B33 := B3.on b3
  gi_wp2
  refine wpIn_rangeFunc_ownH rfl (by decide) (gf := 53) (lb := #[.pointer (some ⟨w0.heap.size, 0, none⟩)]) rfl trivial (enters_of Try.func53 (by kernel_rfl) rfl)
    (wi_stops 9 (by decide) w0.heap.size w3.heap.size [w.heap.size, w.heap.size + 1] o w3 hb3 hT3) (fun h k => h.trans k) (fun W l o o' h1 h2 h3 _ => Kp.put W l o o' h1 h2 h3) (Below.refl _ _) (fun _ => rfl)
    (fun pre W => Ov w3.heap.size [w.heap.size, w.heap.size + 1] w3 W ∧ pre = [] ∧ Blk W w.heap.size 30 (kS.v D.zK) ∧ Blk W (w.heap.size + 1) 4 #[.bool false])
    (fun c pre W => c = .ret ∧ ∃ y, pre = [y] ∧ Ov w3.heap.size [w.heap.size, w.heap.size + 1] w3 W ∧ Blk W w.heap.size 30 (kS.v y.1) ∧ Blk W (w.heap.size + 1) 4 #[.bool true])
    (fun s W W' row hs hg hr => ⟨hs.1.grown (Nat.le_refl _) hg fun r e => .inl (hr r e).1, hs.2.1, (blk_own (fun _ : List Lf => kS.v D.zK)) s W W' row hs.2.2.1 hg hr, (blk_own (fun _ : List Lf => #[.bool false])) s W W' row hs.2.2.2 hg hr⟩)
    (fun c s W W' row hs hg hr => ⟨hs.1, let ⟨y, h1, h2, h3, h4⟩ := hs.2; ⟨y, h1, h2.grown (Nat.le_refl _) hg fun r e => .inl (hr r e).1, (blk_own (fun _ : List Lf => kS.v y.1)) s W W' row h3 hg hr, (blk_own (fun _ : List Lf => #[.bool true])) s W W' row h4 hg hr⟩⟩) ⟨Ov.refl _ _ _, rfl, B23, B33⟩
    (fun y a' W => ∃ gb, w3.heap.size ≤ gb ∧ Blk W gb 81 (lS.v y) ∧ a' = { tmps := #[.pointer (pt o), undef, .pointer (some ⟨w.heap.size, 0, none⟩), .pointer (some ⟨w.heap.size + 1, 0, none⟩), .pointer (some ⟨gb, 0, none⟩), .pointer (pt o), .func (.func 53) #[] #[.pointer (some ⟨w0.heap.size, 0, none⟩)], .agg (lS.v y), undef, undef, undef], defers := [] })
    (fun y a' s W W' row ⟨gb, h1, h2, h3⟩ hg hr => ⟨gb, h1, (blk_own (fun _ : Unit => lS.v y)) s W W' row h2 hg hr, h3⟩) ?assign ?body ?done ?stop
  case assign =>
    rintro l pre y W K ⟨hO, hp, h2, h3⟩ hK
    have hsz := hO.size
    gi_wp2
    exact hK _ _ ((KeepsOthers.alloc _ _).from _) (Kp.below (below_alloc_ _ _) hsz) ⟨hO.on (Nat.le_refl _) (below_alloc_ _ _), hp, h2.alloc _, h3.alloc _⟩ ⟨W.heap.size, hsz, Blk.new _ _ _, rfl⟩
  case body =>
    rintro l pre y a' W hl ⟨r, hr⟩ ⟨hO, rfl, h2, h3⟩ ⟨gb, hgb, hBy, rfl⟩ hlt
    have fl := Shp.rd_blk (S := lS) hBy
    have fk : kS.rd W ⟨gb, 0, none⟩ = some y.1 := (lf_of fl).1
    have tk2 : Shp.tn 25 W w.heap.size = true := Shp.tn_of h2 (by rw [kS.v_size]; rfl)
    have hc := h3.cell
    have hf := h3.free
    have n1 : w.heap.size + 1 ≠ w.heap.size := by omega
    have B4 : Blk (W.setRow w.heap.size (kS.v y.1)) (w.heap.size + 1) 4 #[.bool false] := ⟨(heap_setRow _ _ _ _ n1).trans h3.out⟩
    have hc4 := B4.cell
    have hf4 := B4.free
    gi_wp2
    have hz0 := HZ0.out
    have hz3 := HZ3.out
    have n2 : w.heap.size ≠ w.heap.size + 1 := by omega
    refine ⟨⟨by simp [World.setCell, World.setRow], fun k o hB hk hc => ?_⟩, rfl, y, rfl, ⟨hO.os, hO.tape, hO.output, by have := hO.size; simpa [World.setCell, World.setRow] using this, fun q h1 h2 => ?_⟩, ⟨(Below.heap_setCell _ _ _ _ n2).trans (blk_set_ h2).out⟩, B4.set_ _⟩
    · exact (Below.heap_setCell _ ⟨w.heap.size + 1, 0, none⟩ _ k (by show k ≠ w.heap.size + 1; omega)).trans ((heap_setRow _ _ _ _ (by omega)).trans hk)
    · simp only [List.mem_cons, List.not_mem_nil, or_false, not_or] at h2
      exact (Below.heap_setCell _ ⟨w.heap.size + 1, 0, none⟩ _ q h2.2).trans ((heap_setRow _ _ _ _ h2.1).trans (hO.block q h1 (by simp [h2])))
  case done =>
    rintro D0 ys W hD hp ⟨hO, rfl, h2, h3⟩ hK
    have ho : o = none := by
      cases o with
      | none => rfl
      | some t => exact absurd hp.symm t.ls_ne
    have hz0 := HZ0.out
    have hz3 := HZ3.out
    have tk2 : Shp.tn 25 W w.heap.size = true := Shp.tn_of h2 (by rw [kS.v_size]; rfl)
    have hc := h3.cell
    have hf := h3.free
    have n1 : w.heap.size + 1 ≠ w.heap.size := by omega
    have n2 : w.heap.size ≠ w.heap.size + 1 := by omega
    have B4 : Blk (W.setRow w.heap.size (kS.v D.zK)) (w.heap.size + 1) 4 #[.bool false] := ⟨(heap_setRow _ _ _ _ n1).trans h3.out⟩
    have hc4 := B4.cell
    have hf4 := B4.free
    have hK2 : ((W.setRow w.heap.size (kS.v D.zK)).setCell ⟨w.heap.size + 1, 0, none⟩ (.bool false)).heap[D0]? = some (.deferred (some [])) :=
      (Below.heap_setCell _ ⟨w.heap.size + 1, 0, none⟩ _ D0 (by show D0 ≠ w.heap.size + 1; omega)).trans ((heap_setRow _ _ _ _ (by omega)).trans hK)
    obtain ⟨V, hV⟩ : ∃ V, (W.setRow w.heap.size (kS.v D.zK)).setCell ⟨w.heap.size + 1, 0, none⟩ (.bool false) = V := ⟨_, rfl⟩
    have R2 : kS.rd (V.putObj D0 (.deferred none)) ⟨w.heap.size, 0, none⟩ = some D.zK := by
      refine (Shp.rd_to (World.putObj_heap_other (by show w.heap.size ≠ D0; omega))).trans ?_
      rw [← hV]
      exact (Shp.rd_setCell _ _ _ _ n2).trans (Shp.rd_set (S := kS) W w.heap.size D.zK tk2)
    have R3 : (V.putObj D0 (.deferred none)).cell? ⟨w.heap.size + 1, 0, none⟩ = some (.bool false) := by
      refine (World.cell?_of_block (World.putObj_heap_other (by show w.heap.size + 1 ≠ D0; omega))).trans ?_
      rw [← hV]
      exact (B4.set_ _).cell
    have hOV : Ov w3.heap.size [w.heap.size, w.heap.size + 1] w3 V := by
      rw [← hV]
      refine ⟨hO.os, hO.tape, hO.output, by have := hO.size; simpa [World.setCell, World.setRow] using this, fun q h1 h2 => ?_⟩
      simp only [List.mem_cons, List.not_mem_nil, or_false, not_or] at h2
      exact (Below.heap_setCell _ ⟨w.heap.size + 1, 0, none⟩ _ q h2.2).trans ((heap_setRow _ _ _ _ h2.1).trans (hO.block q h1 (by simp [h2])))
    rw [hV] at hK2
    have hfin := ((b0.trans (b3.mono b0.size))).trans ((hOV.put hD (.deferred none)).below (b := w.heap.size) (by omega) (fun x hx => by simp at hx; omega))
    clear hO hp h2 h3 hK hOV
    gi_wp2
    try rw [hV]
    refine ⟨by simp, .inl ⟨_, _, rfl, run_takeDeferred hK2, ?_⟩⟩
    refine ⟨.tuple #[.agg (kS.v D.zK), .bool false], ?_, ?_, hfin⟩
    · rw [results_cc rfl]; simp [asAddr, Result.andThen, lvk_of R2, lv_bool R3]
    · rw [ho]; rfl
  case stop =>
    rintro D0 c pre W hD ⟨hp, _⟩ ⟨rfl, y, rfl, hO, h2, h3⟩ hK
    have hz0 := HZ0.out
    have hz3 := HZ3.out
    have ho : fk o = y.1 ∧ o.isSome = true := by
      cases o with
      | none => exact absurd hp.length_le (by simp [Cr.Tr.lso])
      | some t =>
        obtain ⟨r, hr⟩ := hp
        have := t.hd_ls
        simp only [Cr.Tr.lso] at hr
        rw [← hr] at this
        simp only [List.singleton_append, List.head?_cons, Option.some.injEq] at this
        exact ⟨by rw [fk, ← this], rfl⟩
    have R2 : kS.rd (W.putObj D0 (.deferred none)) ⟨w.heap.size, 0, none⟩ = some y.1 :=
      (Shp.rd_to (World.putObj_heap_other (by show w.heap.size ≠ D0; omega))).trans (Shp.rd_blk h2)
    have R3 : (W.putObj D0 (.deferred none)).cell? ⟨w.heap.size + 1, 0, none⟩ = some (.bool true) :=
      (World.cell?_of_block (World.putObj_heap_other (by show w.heap.size + 1 ≠ D0; omega))).trans h3.cell
    have hfin := ((b0.trans (b3.mono b0.size))).trans ((hO.put hD (.deferred none)).below (b := w.heap.size) (by omega) (fun x hx => by simp at hx; omega))
    gi_wp2
    refine ⟨by simp, .inl ⟨_, _, rfl, run_takeDeferred hK, ?_⟩⟩
    refine ⟨.tuple #[.agg (kS.v y.1), .bool true], ?_, ?_, hfin⟩
    · rw [results_cc rfl]; simp [asAddr, Result.andThen, lvk_of R2, lv_bool R3]
    · rw [ho.1, ho.2]
end Go.Proofs.Ytkhjnfplcaffnaa
