/-
  The bits at which a key leaves others.
-/
import Derived.Test.YtkhjnfplcaffnaaCap
import Derived.Test.YtkhjnfplcaffnaaDe
set_option linter.unusedVariables false
set_option linter.unusedSimpArgs false
set_option maxRecDepth 100000
namespace Go.Proofs.Ytkhjnfplcaffnaa
open Go.RowKit Go.Shelf
attribute [local go_sem] Oper.semAt_some
attribute [local go_sem ↓] Go.wp_at_zero Go.wp_at_succ ld_k lv_k st_k eq_k ne_k bd_k ld_b lv_b st_b eq_b ne_b bd_25 ld_r lv_r st_rk eq_rk ne_rk bd_r ld_p lv_p st_px bd_p Nm.ld_a Nm.ld_n Nm.st_a Nm.st_n Nm.eq_a Nm.eq_n Nm.ne_a Nm.ne_n Nm.lv_a Nm.lv_n ld_a ld_n st_a st_n eq_a eq_n ne_a ne_n lv_a lv_n ld_l lv_l st_l bd_l bd_n bs_l bs_k
attribute [local go_sem] run_ldk run_lvk run_stk run_eqk run_nek run_bdk_z run_ldb run_lvb run_stb run_eqb run_neb run_ldr run_lvr run_strk run_eqrk run_nerk run_bdr_z run_ldp run_lvp run_stpx Nm.run_ld_a Nm.run_ld_n Nm.run_st_n Nm.run_eq_a Nm.run_eq_n Nm.run_ne_a Nm.run_ne_n Nm.run_lv_a Nm.run_lv_n Nm.rd_new Nm.rd_old Nm.rd_drew Nm.rd_drewN run_ld_a run_ld_n run_sw_a run_sw_n run_eq_a run_eq_n run_ne_a run_ne_n run_lv_a run_lv_n st_z ne_z eq_z rd_new rd_old rd_drew rd_drewN Shp.rd_new Shp.rd_old Shp.rd_drew Shp.rd_drewN Shp.rd_set Shp.tn_new Shp.tn_old Shp.tn_drew Shp.tn_drewN tn_new tn_old tn_drew tn_drewN rd_set setRow_alloc run_stn3 run_stt15 run_lvl run_ldl run_stl run_bdl run_bdn run_bdn0 run_bsl run_bsk Shp.rd_extk cell_ext
theorem int_under : Try.prog.underlying 69 = some (.slice 3) := by kernel_rfl
theorem int_info : (Try.prog.info? 3).map (fun i => (i.zero, i.size, i.bytes)) = some (some (.int .i64 0), 1, 8) := by kernel_rfl
theorem wp_gapp {T T' : TypeId} {z : Value} {sz by_ : Nat} (w : World) (hu : Try.prog.underlying T' = some (.slice T)) (hi : (Try.prog.info? T).map (fun i => (i.zero, i.size, i.bytes)) = some (some z, sz, by_)) (hz : z.cells.size = sz) (hs : 0 < sz) (hby : by_ ≤ 1000)
    {o : Oper} {a : Act} {K : Act → World → Prop} {Q : Exit → Act → World → Prop} (s x : Operand)
    (hop : o.op = .call { callee := .builtin .append, args := #[s, x], argTypes := #[T', T'] })
    {base : Nat} {A B : Option Addr} {n c m d : Nat} {l k : List Value} (hes : a.eval s = .slice A n c) (ho : Ow T sz base w A n c l) (hx : a.eval x = .slice B m d) (hr : Rw sz w B m k) (h1 : ∀ u ∈ k, u.oneCell' = true) (h63 : n + m ≤ 1000000)
    (h : ∀ A' c' w', Ow T sz base w' A' (n + m) c' (l ++ k) → w.grownBy w' (Value.slice A n c).ownBlock → K (a.put o.dst (.slice A' (n + m) c')) w') : o.wp Try.prog a w K Q := by
  obtain ⟨A', c', w', hrun, h2, h3, h4⟩ := run_gapp w hu hi hz hs o.type ho hr h1 h63 hby (d := d)
  unfold Oper.wp execOp
  simp only [hop, resolve, invoke, builtin, Sem.run_bind, Sem.run_pure, Result.andThen_ok, List.map_toArray, List.map_cons, List.map_nil, hes, hx, hrun]
  exact h A' c' w' h2 h3
def ivs (l : List Nat) : List Value := l.map fun b => .int .i64 (b : Nat)
theorem ivs_app (l : List Nat) (b : Nat) : ivs (l ++ [b]) = ivs l ++ [.int .i64 (b : Nat)] := by simp [ivs]
def bof (l : List Tk) : List Nat := l.map Cr.Tr.bit
theorem bof_app (l : List Tk) (y : Tk) : bof (l ++ [y]) = bof l ++ [y.bit] := by simp [bof]
theorem bof_len (l : List Tk) : (bof l).length = l.length := by simp [bof]
theorem wdr {w : World} : Below w.heap.size w w.drew := (Below.refl _ _).drew
/-- What a round of Branch does. -/
def Rnb (gb : Nat) (base : Nat) (wd : World) (A : Option Addr) (n c : Nat) (xs : List Value) (b : Nat) (w' : World) : Prop :=
  ∃ A1 c1 w1, Ow 3 1 base w1 A1 (n + 1) c1 (xs ++ [.int .i64 (b : Nat)]) ∧ (wd.alloc (.cells #[.int .i64 (b : Nat)] 3)).grownBy w1 (Value.slice A n c).ownBlock ∧ w' = w1.setCell ⟨gb, 0, none⟩ (.slice A1 (n + 1) c1)
set_option maxHeartbeats 16000000 in
theorem branch_any (g : Nat) (o : Option Tk) (k : D.Ky) (w : World) (hT : TR w g o) : Calls Try.prog 25 #[.pointer (some ⟨g, 0, none⟩), .agg (kS.v k)] w fun e w' => ∃ (A : Option Addr) (c : Nat), e = .returned (.slice A (Cr.brs k (Cr.Tr.lso o)).length c) ∧ Ow 3 1 w.heap.size w' A (Cr.brs k (Cr.Tr.lso o)).length c (ivs (Cr.brs k (Cr.Tr.lso o))) ∧ Below w.heap.size w w' := by
  obtain ⟨w0, hw0⟩ : ∃ w0, w.alloc (.cells (kS.v k) 30) = w0 := ⟨_, rfl⟩
  have f0 : kS.rd w0 ⟨w.heap.size, 0, none⟩ = some k := by rw [← hw0]; exact Shp.rd_new _ _ _ _ rfl
  have b0 : Below w.heap.size w w0 := by rw [← hw0]; exact below_alloc_ _ _
  have hz0 : w.heap.size < w0.heap.size := by rw [← hw0]; simp
  have hT0 := hT.on b0
  have CH := Lib.hid (held_any g o k w0 hT0)
  rcases hld_has hT k with ⟨h1, h2⟩ | ⟨t, a, v, rfl, hn, h2, h3, _⟩
  · rw [h2] at CH
    have hbr : Cr.brs k (Cr.Tr.lso o) = [] := by unfold Cr.brs; rw [if_neg (by rw [h1]; decide)]
    rw [hbr]
    clear h1 h2 hT hT0 hbr f0
    refine (callsIn_wide (n := 10)).1 ?_
    refine callsIn_of_wp_marks Try.func25 rfl trivial ?_ rfl
    simp only [Try.ntmps25, List.size_toArray, List.length_cons, List.length_nil, Nat.reduceAdd, Nat.reduceSub, Array.replicate_succ, Array.replicate_zero, List.push_toArray, List.append_toArray, List.nil_append, List.cons_append]
    have f0 : kS.rd w0 ⟨w.heap.size, 0, none⟩ = some k := by rw [← hw0]; exact Shp.rd_new _ _ _ _ rfl
    gi_wp2
    try rw [hw0]
    clear hw0
    gi_wp2
    refine ⟨trivial, ?_⟩
    refine (callsIn_wide.2 CH.out).mono ?_
    rintro e w1 ⟨rfl, b1⟩
    have z1 := below_up b0 b0.size b1
    gi_wp2
    exact ⟨_, results_tmp rfl _ _ _, none, 0, rfl, Ow.nil _ 1 z1.size, z1⟩
  · rw [h2] at CH
    have hbr : Cr.brs k (Cr.Tr.lso (some t)) = bof (pth k 200 (some t)) := (Cr.brs_bits (hT.wf t rfl) (by rw [hn]; rfl)).symm
    rw [hbr]
    have hpl : (pth k 200 (some t)).length ≤ 200 := pth_len hT.wf
    have hln := bof_len (pth k 200 (some t))
    have CP := Lib.hid (fun w => passed_any (some ⟨g, 0, none⟩) k 200 w)
    clear h3 h2 hT hbr hn
    refine (callsIn_wide (n := 10)).1 ?_
    refine callsIn_of_wp_marks Try.func25 rfl trivial ?_ rfl
    simp only [Try.ntmps25, List.size_toArray, List.length_cons, List.length_nil, Nat.reduceAdd, Nat.reduceSub, Array.replicate_succ, Array.replicate_zero, List.push_toArray, List.append_toArray, List.nil_append, List.cons_append]
    gi_wp2
    try rw [hw0]
    clear hw0
    gi_wp2
    refine ⟨trivial, ?_⟩
    refine (callsIn_wide.2 CH.out).mono ?_
    rintro e w1 ⟨rfl, b1⟩
    have hT1 := hT0.on b1
    have f1 := Shp.rd_on f0 b1
    have z1 := below_up b0 b0.size b1
    have hz1 : w.heap.size < w1.heap.size := Nat.lt_of_lt_of_le hz0 b1.size
    clear hT0 f0 b1 CH
    obtain ⟨gb, hgb⟩ : ∃ gb, w1.heap.size = gb := ⟨_, rfl⟩
    obtain ⟨wb, hwb⟩ : ∃ wb, w1.alloc (.cells #[.slice none 0 0] 69) = wb := ⟨_, rfl⟩
    have b2 : Below w1.heap.size w1 wb := by rw [← hwb]; exact below_alloc_ _ _
    have B2 : Blk wb gb 69 #[.slice none 0 0] := by rw [← hwb, ← hgb]; exact Blk.new _ _ _
    have f2 := Shp.rd_on f1 b2
    have hT2 := hT1.on b2
    have z2 := below_up z1 z1.size b2
    gi_wp2
    try rw [hwb]
    try rw [hgb]
    clear hwb hT1 f1
    gi_wp2
    refine ⟨trivial, ?_⟩
    refine (callsIn_wide.2 (CP.out _)).mono ?_
    rintro e w6 ⟨rfl, hw6⟩
    have b6 : Below wb.heap.size wb w6 := by rw [hw6]; exact ((below_alloc_ _ _).alloc (by simp) _).alloc (by simp; omega) _
    have HZ6 : Kept (w6.heap.size = wb.heap.size + 3) := ⟨by rw [hw6]; simp⟩
    have ht6 : w6.cell? ⟨wb.heap.size, 0, none⟩ = some (.pointer (some ⟨g, 0, none⟩)) := by
      rw [hw6]
      exact cell_kept_ (below_alloc_ _ _) (cell_kept_ (below_alloc_ _ _) (Blk.new wb _ _).cell)
    have hk6 : kS.rd w6 ⟨wb.heap.size + 1, 0, none⟩ = some k := by
      rw [hw6]
      exact Shp.rd_on (Shp.rd_new (S := kS) _ _ _ _ (by simp)) (below_alloc_ _ _)
    have hb6 : w6.cell? ⟨wb.heap.size + 2, 0, none⟩ = some (.int .i64 200) := by
      rw [hw6]
      have := (Blk.new ((wb.alloc (.cells #[.pointer (some ⟨g, 0, none⟩)] 31)).alloc (.cells (kS.v k) 30)) 3 #[.int .i64 200]).cell
      simpa using this
    clear hw6
    have hT6 := hT2.on b6
    have B6 := B2.on b6
    have z6 := below_up z2 z2.size b6
    have l1 := B2.lt
    have hcap : wb.heap.size + 2 < w6.heap.size ∧ wb.heap.size + 2 ∉ [gb] := ⟨by have := HZ6.out; omega, by simp; omega⟩
    have hX : ∀ u, some t = some u → ∀ q ∈ u.bl, q < w6.heap.size ∧ q ∉ [gb] := fun u e q hq => by
      obtain ⟨cs, hB⟩ := (hT6.nd u e).lt q hq
      refine ⟨hB.lt, fun c => ?_⟩
      simp only [List.mem_singleton] at c
      exact blk_ne hB B6 (by decide) c
    clear hT2 B2 f2
    gi_wp2
    refine wpIn_rangeFunc_ownH rfl (by decide) (gf := 57) (lb := #[.pointer (some ⟨wb.heap.size + 1, 0, none⟩), .pointer (some ⟨wb.heap.size, 0, none⟩), .pointer (some ⟨wb.heap.size + 2, 0, none⟩)]) rfl trivial (enters_of Try.func57 (by kernel_rfl) rfl)
      (psd_stops 9 (by decide) (wb.heap.size + 1) wb.heap.size (wb.heap.size + 2) g k 200 (by omega) (some t) w6.heap.size [gb] w6 hk6 ht6 hb6 hT6 hcap hX (Nat.le_refl _)) (fun h k => h.trans k) (fun W l o o' h1 h2 h3 _ => Kp.put W l o o' h1 h2 h3) (Below.refl _ _) (fun _ => rfl)
      (fun pre W => Ov w6.heap.size [gb] w6 W ∧ ∃ A c, Blk W gb 69 #[.slice A pre.length c] ∧ Ow 3 1 w6.heap.size W A pre.length c (ivs (bof (pre.map (·.1))))) (fun _ _ _ => False)
      (fun s W W' row hs hg hr => ⟨hs.1.grown (Nat.le_refl _) hg fun r e => .inl (hr r e).1, let ⟨A, c, h1, h2⟩ := hs.2; ⟨A, c, (blk_own (fun _ : List { u : Tk // u ∈ pth k 200 (some t) } => #[.slice A s.length c])) s W W' row h1 hg hr, ow_own h2 hg hr⟩⟩) (fun _ _ _ _ _ hs _ _ => hs) ⟨Ov.refl _ _ _, none, 0, B6, Ow.nil _ 1 (Nat.le_refl _)⟩
      (fun y a' W => a' = { tmps := #[.pointer (some ⟨g, 0, none⟩), .agg (kS.v k), undef, .pointer (some ⟨w.heap.size, 0, none⟩), .slice none 0 0, .pointer (some ⟨gb, 0, none⟩), .pointer (some ⟨y.1.ad, 0, none⟩), .pointer (some ⟨g, 0, none⟩), .agg (kS.v k), .pointer (some ⟨a, 0, none⟩), .bool false, .pointer (some ⟨g, 0, none⟩), .agg (kS.v k), .func (.func 57) #[] #[.pointer (some ⟨wb.heap.size + 1, 0, none⟩), .pointer (some ⟨wb.heap.size, 0, none⟩), .pointer (some ⟨wb.heap.size + 2, 0, none⟩)], .pointer (some ⟨y.1.ad, 0, none⟩), undef, undef, undef, undef, undef, undef, undef, undef], defers := [] })
      (fun _ _ _ _ _ _ hs _ _ => hs) ?assign ?body ?done ?stop
    case assign =>
      rintro l pre y W K hI hK
      gi_wp2
      exact hK _ _ (KeepsFrom.refl _ _) (Kp.refl _ _ _) hI rfl
    case body =>
      rintro l pre y a' W hl ⟨r2, hr2⟩ ⟨hO, A, c, hB, hOw⟩ rfl hlt
      obtain ⟨m1, m2, m3, u, m4, m5⟩ := hT6.mem y.2
      have hbl : ∀ q ∈ y.1.bl, q < w6.heap.size ∧ q ∉ [gb] := fun q hq => hX u m4 q (m5 q hq)
      have c0 := m1.nf.bit
      have l0 := m1.nf.lt
      have hy7 := (hbl y.1.ad y.1.ad_mem).2
      have hmix : Try.prog.follows .mixedOrders = true := by kernel_rfl
      have HB := Lib.hid hB
      have HO := Lib.hid hO
      have HOW := Lib.hid hOw
      obtain ⟨np, hnp⟩ : ∃ np, pre.length = np := ⟨_, rfl⟩
      rw [hnp] at HB HOW hlt
      have hnl : np ≤ 200 := by omega
      have l6 : gb < w6.heap.size := B6.lt
      obtain ⟨wd, hwd⟩ : ∃ wd, W.drew = wd := ⟨_, rfl⟩
      have bwd : Below W.heap.size W wd := by rw [← hwd]; exact wdr
      have key : ∀ w', Rnb gb w6.heap.size wd A np c (ivs (bof (pre.map (·.1)))) y.1.bit w' → KeepsOthers W w' ∧ Kp w6.heap.size [gb] W w' ∧ Ov w6.heap.size [gb] w6 w' ∧ ∃ A c, Blk w' gb 69 #[.slice A (pre ++ [y]).length c] ∧ Ow 3 1 w6.heap.size w' A (pre ++ [y]).length c (ivs (bof ((pre ++ [y]).map (·.1)))) := by
        rintro w' ⟨A1, c1, w1, hOw1, hg1, rfl⟩
        have hOwA := HOW.out.on (bwd.alloc bwd.size (.cells #[.int .i64 (y.1.bit : Nat)] 3))
        have hBA := HB.out.on (bwd.alloc bwd.size (.cells #[.int .i64 (y.1.bit : Nat)] 3))
        have hb1 := hBA.grown hg1 (fun e => by have := (HOW.out.lt _ e.symm).1; omega)
        have hoc := ow_cells hOwA
        have hsz := HO.out.size
        have hlp : (pre ++ [y]).length = np + 1 := by simp [hnp]
        have hbw : Below W.heap.size W (wd.alloc (.cells #[.int .i64 (y.1.bit : Nat)] 3)) := bwd.alloc bwd.size _
        have hOA : Ov w6.heap.size [gb] w6 (wd.alloc (.cells #[.int .i64 (y.1.bit : Nat)] 3)) := HO.out.on (Nat.le_refl _) hbw
        refine ⟨?_, ?_, (hOA.grown (Nat.le_refl _) hg1 (fun r e => .inl (HOW.out.lt r e).1)).set (by simp) _, A1, c1, ?_, ?_⟩
        · exact ((KeepsOthers.of_grownBy (grown_none hbw) (fun j o e h => by cases e)).trans (KeepsOthers.of_grownBy hg1 fun j o e h => (hoc j o e h).1)).trans (KeepsOthers.setCell _ _ _)
        · refine ((Kp.below hbw hsz).trans ⟨hg1.size, fun g h1 h2 => hg1.block g (Nat.lt_of_lt_of_le h1 hOA.size) (fun e => by have := (HOW.out.lt g e.symm).1; omega), fun g cs h => hg1.block g (Array.getElem?_eq_some_iff.1 h).1 fun e => ow_type hOwA (by decide) g cs h e.symm⟩).trans (Kp.set _ _ _ _ (by simp) hb1 (by decide))
        · rw [hlp]; exact hb1.set_ _
        · rw [hlp, List.map_append, List.map_cons, List.map_nil, bof_app, ivs_app]
          exact hOw1.kept (by simp [World.setCell]) (fun g e => Below.heap_setCell _ _ _ g (by have := (hOw1.lt g e).1; show g ≠ gb; omega))
      have KEY := Lib.hid key
      clear key
      obtain ⟨xs, hxs⟩ : ∃ xs, ivs (bof (pre.map (·.1))) = xs := ⟨_, rfl⟩
      rw [hxs] at KEY HOW
      clear hB hO hOw hX m2 m3 m4 m5 hxs hbl m1
      have sv : Ov w6.heap.size [gb] w6 wd := HO.out.on (Nat.le_refl _) bwd
      gi_wp2
      refine region_round (S := fun V => Ov w6.heap.size [gb] w6 V) (R := fun _ w' => Rnb gb w6.heap.size wd A np c xs y.1.bit w') hmix (by kernel_rfl) (by rw [hwd]; exact sv) (fun sd0 => ?_) ?_
      rw [hwd] at sd0
      rw [hwd]
      clear hwd
      refine takeS 1 (some 16) ?vb1 (by kernel_rfl) (by kernel_rfl) (by kernel_rfl) (by kernel_rfl) (fun _ _ _ h => h) (by rfl) ?hyb1 sd0 ?restb1
      case hyb1 => (intro o ho W hW; simp only [List.getElem?_toArray, List.getElem?_cons_succ, List.getElem?_cons_zero, Option.some.injEq] at ho; subst ho; (try dsimp only at hW); skip; go_simp; try rfl)
      try simp only [Act.put, List.setIfInBounds_toArray, List.set_cons_zero, List.set_cons_succ]
      refine takeS 2 (some 17) ?vb2 (by kernel_rfl) (by kernel_rfl) (by kernel_rfl) (by kernel_rfl) (fun _ _ _ h => h) (by rfl) ?hyb2 sd0 ?restb2
      case hyb2 => (intro o ho W hW; simp only [List.getElem?_toArray, List.getElem?_cons_succ, List.getElem?_cons_zero, Option.some.injEq] at ho; subst ho; (try dsimp only at hW); skip; go_simp; try rfl)
      try simp only [Act.put, List.setIfInBounds_toArray, List.set_cons_zero, List.set_cons_succ]
      refine takeS 3 (some 18) ?vb3 (by kernel_rfl) (by kernel_rfl) (by kernel_rfl) (by kernel_rfl) (fun _ _ _ h => h) (by rfl) ?hyb3 sd0 ?restb3
      case hyb3 => (intro o ho W hW; simp only [List.getElem?_toArray, List.getElem?_cons_succ, List.getElem?_cons_zero, Option.some.injEq] at ho; subst ho; (try dsimp only at hW); skip; go_simp; try rfl)
      try simp only [Act.put, List.setIfInBounds_toArray, List.set_cons_zero, List.set_cons_succ]
      refine takeS 4 (some 19) ?vb4 (by kernel_rfl) (by kernel_rfl) (by kernel_rfl) (by kernel_rfl) (fun _ _ _ h => h) (by rfl) ?hyb4 sd0 ?restb4
      case hyb4 => (intro o ho W hW; simp only [List.getElem?_toArray, List.getElem?_cons_succ, List.getElem?_cons_zero, Option.some.injEq] at ho; subst ho; (try dsimp only at hW); have g2 := (World.cell?_of_block (hW.block y.1.ad l0 hy7)).trans c0; go_simp; try rfl)
      try simp only [Act.put, List.setIfInBounds_toArray, List.set_cons_zero, List.set_cons_succ]
      have sB := sv.on (Nat.le_refl _) (below_alloc_ wd (.cells #[.int .i64 (y.1.bit : Nat)] 3))
      have hcW : wd.cell? ⟨gb, 0, none⟩ = some (.slice A np c) := (HB.out.on bwd).cell
      have hcA : (wd.alloc (.cells #[.int .i64 (y.1.bit : Nat)] 3)).cell? ⟨gb, 0, none⟩ = some (.slice A np c) := ((HB.out.on bwd).alloc _).cell
      refine forkS 0 5 (by kernel_rfl) (by rfl) (by rfl) (fun o ho K hK => ?_) (fun o ho K hK => ?_)
      · simp only [List.getElem?_toArray, List.getElem?_cons_succ, List.getElem?_cons_zero, Option.some.injEq] at ho; subst ho
        go_simp
        refine hK.out _ _ sd0 (fun _ => ?_)
        clear hK K
        try simp only [Act.put, List.setIfInBounds_toArray, List.set_cons_zero, List.set_cons_succ]
        refine nextS 5 (by kernel_rfl) (by rfl) (fun o ho K hK => ?_)
        simp only [List.getElem?_toArray, List.getElem?_cons_succ, List.getElem?_cons_zero, Option.some.injEq] at ho; subst ho
        go_simp
        refine hK.out _ _ sB (fun _ => ?_)
        clear hK K
        try simp only [Act.put, List.setIfInBounds_toArray, List.set_cons_zero, List.set_cons_succ]
        have hOA := HOW.out.on (bwd.alloc bwd.size (.cells #[.int .i64 (y.1.bit : Nat)] 3))
        refine nextS 6 (by kernel_rfl) (by rfl) (fun o ho K hK => ?_)
        simp only [List.getElem?_toArray, List.getElem?_cons_succ, List.getElem?_cons_zero, Option.some.injEq] at ho; subst ho
        refine wp_gapp _ int_under int_info rfl (by decide) (by decide) (.tmp 15) (.tmp 20) rfl rfl hOA rfl (rw_new _ 1 3 1 #[.int .i64 (y.1.bit : Nat)] rfl) (by intro u hu; simp at hu; subst hu; rfl) (by omega) ?_
        intro A1 c1 w1 ho1 hg1
        have sA := (sv.on (Nat.le_refl _) (below_alloc_ wd (.cells #[.int .i64 (y.1.bit : Nat)] 3))).grown (Nat.le_refl _) hg1 (fun r e => .inl (HOW.out.lt r e).1)
        refine hK.out _ _ sA (fun _ => ?_)
        clear hK K
        try simp only [Act.put, List.setIfInBounds_toArray, List.set_cons_zero, List.set_cons_succ]
        have hb1 := (HB.out.on (bwd.alloc bwd.size (.cells #[.int .i64 (y.1.bit : Nat)] 3))).grown hg1 (fun e => by have := (HOW.out.lt _ e.symm).1; omega)
        have hc1 := hb1.cell
        have hf1 := hb1.free
        refine nextS 7 (by kernel_rfl) (by rfl) (fun o ho K hK => ?_)
        simp only [List.getElem?_toArray, List.getElem?_cons_succ, List.getElem?_cons_zero, Option.some.injEq] at ho; subst ho
        go_simp
        have s9 := sA.set (a := ⟨gb, 0, none⟩) (by simp) (.slice A1 (np + 1) c1)
        refine hK.out _ _ s9 (fun _ => ?_)
        clear hK K
        try simp only [Act.put, List.setIfInBounds_toArray, List.set_cons_zero, List.set_cons_succ]
        refine wpAnyH_done (by kernel_rfl) ?_ _
        exact ⟨A1, c1, w1, ho1, hg1, rfl⟩
      · simp only [List.getElem?_toArray, List.getElem?_cons_succ, List.getElem?_cons_zero, Option.some.injEq] at ho; subst ho
        go_simp
        refine hK.out _ _ sB (fun _ => ?_)
        clear hK K
        try simp only [Act.put, List.setIfInBounds_toArray, List.set_cons_zero, List.set_cons_succ]
        refine nextS 0 (by kernel_rfl) (by rfl) (fun o ho K hK => ?_)
        simp only [List.getElem?_toArray, List.getElem?_cons_succ, List.getElem?_cons_zero, Option.some.injEq] at ho; subst ho
        go_simp
        refine hK.out _ _ sB (fun _ => ?_)
        clear hK K
        try simp only [Act.put, List.setIfInBounds_toArray, List.set_cons_zero, List.set_cons_succ]
        have hOA := HOW.out.on (bwd.alloc bwd.size (.cells #[.int .i64 (y.1.bit : Nat)] 3))
        refine nextS 6 (by kernel_rfl) (by rfl) (fun o ho K hK => ?_)
        simp only [List.getElem?_toArray, List.getElem?_cons_succ, List.getElem?_cons_zero, Option.some.injEq] at ho; subst ho
        refine wp_gapp _ int_under int_info rfl (by decide) (by decide) (.tmp 15) (.tmp 20) rfl rfl hOA rfl (rw_new _ 1 3 1 #[.int .i64 (y.1.bit : Nat)] rfl) (by intro u hu; simp at hu; subst hu; rfl) (by omega) ?_
        intro A1 c1 w1 ho1 hg1
        have sA := (sv.on (Nat.le_refl _) (below_alloc_ wd (.cells #[.int .i64 (y.1.bit : Nat)] 3))).grown (Nat.le_refl _) hg1 (fun r e => .inl (HOW.out.lt r e).1)
        refine hK.out _ _ sA (fun _ => ?_)
        clear hK K
        try simp only [Act.put, List.setIfInBounds_toArray, List.set_cons_zero, List.set_cons_succ]
        have hb1 := (HB.out.on (bwd.alloc bwd.size (.cells #[.int .i64 (y.1.bit : Nat)] 3))).grown hg1 (fun e => by have := (HOW.out.lt _ e.symm).1; omega)
        have hc1 := hb1.cell
        have hf1 := hb1.free
        refine nextS 7 (by kernel_rfl) (by rfl) (fun o ho K hK => ?_)
        simp only [List.getElem?_toArray, List.getElem?_cons_succ, List.getElem?_cons_zero, Option.some.injEq] at ho; subst ho
        go_simp
        have s9 := sA.set (a := ⟨gb, 0, none⟩) (by simp) (.slice A1 (np + 1) c1)
        refine hK.out _ _ s9 (fun _ => ?_)
        clear hK K
        try simp only [Act.put, List.setIfInBounds_toArray, List.set_cons_zero, List.set_cons_succ]
        refine wpAnyH_done (by kernel_rfl) ?_ _
        exact ⟨A1, c1, w1, ho1, hg1, rfl⟩
      rintro a' w' hw'
      obtain ⟨k1, k2, k3, k4⟩ := KEY.out w' hw'
      exact ⟨k1.from _, k2, k3, k4⟩
    case done =>
      rintro D0 ys W hD hp ⟨hO, A, c, hB, hOw⟩ hK
      have hpl2 : ys.length = (pth k 200 (some t)).length := by have := congrArg List.length hp; simpa using this
      rw [hp] at hOw
      have hc := hB.cell
      have hfin := z6.trans ((hO.put hD (.deferred none)).below (b := w.heap.size) (by have := z6.size; omega) (fun x hx => by simp at hx; omega))
      have hOF : Ow 3 1 w.heap.size (W.putObj D0 (.deferred none)) A (bof (pth k 200 (some t))).length c (ivs (bof (pth k 200 (some t)))) := by
        have := ow_base (hOw.kept (w' := W.putObj D0 (.deferred none)) (by simp [World.putObj]) (fun g e => World.putObj_heap_other (fun e' => by subst e'; have := (ow_cells hOw g _ e hK).1; cases this))) z6.size
        rw [hln, ← hpl2]; exact this
      have HOF := Lib.hid hOF
      have HFIN := Lib.hid hfin
      have hlq : ys.length = (bof (pth k 200 (some t))).length := by rw [hpl2, hln]
      have HLQ := Lib.hid hlq
      clear hOF hfin hOw hpl2 hlq hO hB
      gi_wp2
      refine ⟨by simp, .inl ⟨_, _, rfl, run_takeDeferred hK, ?_⟩⟩
      exact ⟨_, results_tmp rfl _ _ _, A, c, by rw [← HLQ.out]; rfl, HOF.out, HFIN.out⟩
    case stop =>
      rintro D0 c pre W _ _ h _
      exact h.elim
end Go.Proofs.Ytkhjnfplcaffnaa
