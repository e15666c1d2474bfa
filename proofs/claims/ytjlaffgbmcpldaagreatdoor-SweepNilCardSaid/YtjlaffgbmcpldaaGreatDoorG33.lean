/-
  
-/
import Derived.Test.YtjlaffgbmcpldaaGreatDoorG32
import Derived.Deep.Cut
import Derived.Deep.CutRange
set_option linter.unusedVariables false
set_option linter.unusedSimpArgs false
set_option maxRecDepth 100000
namespace Go.Proofs.YtjlaffgbmcpldaaGreatDoor
open Go.RowKit
attribute [local go_sem ↓] Go.wp_at_zero Go.wp_at_succ ld_k lv_k st_k eq_k ne_k bd_k ld_b lv_b st_b eq_b ne_b bd_25 ld_r lv_r st_rk eq_rk ne_rk bd_r ld_p lv_p st_px bd_p Nm.ld_a Nm.ld_n Nm.st_a Nm.st_n Nm.eq_a Nm.eq_n Nm.ne_a Nm.ne_n Nm.lv_a Nm.lv_n ld_a ld_n st_a st_n eq_a eq_n ne_a ne_n lv_a lv_n ld_l lv_l st_l bd_l bd_n bs_k ld_v lv_v st_v ne_v bd_v bs_v ld_w lv_w st_w ne_w bd_w bs_w ld_rh ld_d lv_rh lv_d st_r st_d ne_rh eq_rh ne_d bd_rh bd_d ld_x lv_x st_x bd_x bs_x ld_e lv_e st_e bd_e bs_e ne_e
attribute [local go_sem] run_ldk run_lvk run_stk run_eqk run_nek run_bdk_z run_ldb run_lvb run_stb run_eqb run_neb run_ldr run_lvr run_strk run_eqrk run_nerk run_bdr_z run_ldp run_lvp run_stpx Nm.run_ld_a Nm.run_ld_n Nm.run_st_n Nm.run_eq_a Nm.run_eq_n Nm.run_ne_a Nm.run_ne_n Nm.run_lv_a Nm.run_lv_n Nm.rd_new Nm.rd_old Nm.rd_drew Nm.rd_drewN run_ld_a run_ld_n run_sw_a run_sw_n run_eq_a run_eq_n run_ne_a run_ne_n run_lv_a run_lv_n st_z ne_z eq_z rd_new rd_old rd_drew rd_drewN Shp.rd_new Shp.rd_old Shp.rd_drew Shp.rd_drewN Shp.rd_set Shp.tn_new Shp.tn_old Shp.tn_drew Shp.tn_drewN tn_new tn_old tn_drew tn_drewN rd_set setRow_alloc run_stn3 run_stt15 run_lvl run_ldl run_stl run_bdl run_bdn run_bdn0 run_bsk Shp.rd_extk cell_ext run_ldv run_lvv run_stv run_nev run_bdv_z run_bdv_d run_bdv_r run_bsv1 run_bsv0 run_ldw run_lvw run_stw run_new run_bdw_3 run_bsw1 run_bsw0 run_ldrh run_ldd run_lvrh run_lvd run_str run_std run_nerh run_eqrh run_ned run_bdr0 run_bdd0 run_bdr1 run_bdd1 run_bdd9 run_ldx run_lvx run_stx run_lde run_lve run_bde run_bse1 run_bdv_3 Shp.rd_extk cell_ext
def Fsw (base top g : Nat) (w w' : World) : Prop := Only (fun i => i = g ∨ ((base ≤ i ∧ Sty w i) ∧ i < top)) w w'
theorem Fsw.of {base top g : Nat} {w w' : World} (h : Frt base top w w') : Fsw base top g w w' := Only.more h fun i hi => .inr hi
theorem Fsw.own {base top g : Nat} {w w' : World} (h : Only (fun i => i = g) w w') : Fsw base top g w w' := Only.more h fun i hi => .inl hi
theorem Fsw.below_ {base top g : Nat} {w w1 : World} (hb : Below w.heap.size w w1) : Fsw base top g w w1 := only_below hb
theorem Fsw.on {base top g : Nat} {w w1 w2 : World} (h : Fsw base top g w w1) (hb : Below w1.heap.size w1 w2) : Fsw base top g w w2 := Only.on h hb
theorem Fsw.trans {base top g : Nat} {w w1 w2 : World} (h : Fsw base top g w w1) (k : Fsw base top g w1 w2) : Fsw base top g w w2 :=
 Only.trans (S := fun i => i = g ∨ ((base ≤ i ∧ Sty w i) ∧ i < top)) h k fun i hi => by
  rcases hi with rfl | ⟨⟨h1, cs, T, f, h2, h3⟩, h4⟩
  ·exact .inl (.inl rfl)
  ·by_cases hi : i < w.heap.size
   ·by_cases hS : i = g ∨ ((base ≤ i ∧ Sty w i) ∧ i < top)
    ·exact .inl hS
    ·exact .inl (.inr ⟨⟨h1, cs, T, f, (h.block i hi hS).symm.trans h2, h3⟩, h4⟩)
   ·exact .inr (by omega)
theorem Fsw.size {base top g : Nat} {w w' : World} (h : Fsw base top g w w') : w.heap.size ≤ w'.heap.size := Only.size h
theorem Fsw.blk {base top g i : Nat} {T : TypeId} {cs : Array Value} {w w' : World} (h : Fsw base top g w w') (hB : Blk w i T cs) (hT : T ∉ sts) (hg : i ≠ g) : Blk w' i T cs :=
 hB.only h fun hi => by
  rcases hi with hi | ⟨⟨_, cs', T', f, h2, h3⟩, _⟩
  ·exact hg hi
  ·have := h2.symm.trans hB.out
   injection this with this
   injection this with _ e
   subst e
   exact hT h3
theorem Frt.wb {base top g : Nat} {x : Wc} {w w' : World} (h : Frt base top w w') (hW : Wb w g x) : Wb w' g x := ⟨Frm.blk h.frm hW.blk (by decide)⟩
theorem Fsw.tab {base top g tb tg : Nat} {m : Option Nat} {l : Pn.D.Ps} {x : Wc} {w w' : World} (h : Fsw base top g w w') (hT : Pn.Tab tb w tg m l) (hW : Wb w g x) : Pn.Tab tb w' tg m l := by
 obtain ⟨ts, hB, h2⟩ := hT.blk
 have hne : tg ≠ g := fun e => ty_ne hB hW.blk.out (by decide) e
 refine ⟨⟨ts, h.blk hB (by decide) hne, h2⟩, hT.len, hT.lt, hT.le, ⟨hT.cnt.none_, fun b e => ?_⟩⟩
 obtain ⟨h1, K, hM, hK⟩ := hT.cnt.some_ b e
 refine ⟨h1, K, hM.tow (h.block b hM.lt_ fun hi => ?_), hK⟩
 rcases hi with rfl | ⟨⟨_, cs, T, f, h3, _⟩, _⟩
 ·exact hM.no_cells hW.blk rfl
 ·obtain ⟨D0, ⟨es, clock, hb, r⟩, r'⟩ := hM.out
  have := hb.symm.trans h3
  injection this with this
  cases this
set_option maxHeartbeats 4000000 in
theorem wtrim_any {base top s g tb tg : Nat} {m : Option Nat} {w : World} {M : D.Sm} {x : Wc} {l : Pn.D.Ps} (hW : Wb w g x) (hp : x.p = some ⟨s, 0, none⟩) (ht : x.t = some ⟨tg, 0, none⟩) (hS : SMt base top w s M) (hT : Pn.Tab tb w tg m l) (hl : M.last ≤ 1000) {ps : List Nat} (hps : Pn.Tms l ps) (hpl : ps.length ≤ 1000) (hso : ∀ ss : List Nat, ss.Perm ps → SOk ss) (k : D.Ky) (hg0 : 0 ≤ x.gn) (hg1 : x.gn ≤ 1000000000) (hb : base ≤ w.heap.size) :
  Calls Tryz.prog 98 #[.pointer (some ⟨g, 0, none⟩), .agg (kS.v k)] w fun e w' => e = .returned (.int .i64 (M.went k ps : Nat)) ∧ Wb w' g { x with gn := x.gn + (M.went k ps : Nat) } ∧ SMt base top w' s (M.trim k ps) ∧ Fsw base top g w w' := by
 have B0 := Blk.new w 39 (kS.v k)
 have b0 := below_alloc_ w (.cells (kS.v k) 39)
 obtain ⟨w0, hw0⟩ : ∃ w0, w.alloc (.cells (kS.v k) 39) = w0 := ⟨_, rfl⟩
 rw [hw0] at B0 b0
 have HB := Lib.hid B0
 have HW := Lib.hid (hW.on b0)
 have HS := Lib.hid (hS.on b0)
 have HT := Lib.hid (hT.on b0)
 have HX : Hid (x.p = some ⟨s, 0, none⟩ ∧ x.t = some ⟨tg, 0, none⟩) := Lib.hid ⟨hp, ht⟩
 have hbd : Hid (M.went k ps ≤ 1000) := Lib.hid (by
  have := hS.sm.wf.len k
  unfold D.Sm.went; omega)
 have HL := Lib.hid hl
 obtain ⟨n1, hn1⟩ : ∃ n1, M.went k ps = n1 := ⟨_, rfl⟩
 have HN := Lib.hid hn1
 have hn2 : n1 ≤ 1000 := by rw [← hn1]; exact hbd.out
 rw [hn1]
 have CT : Hid (∀ (W : World) (A : Option Addr) (c : Nat), Below w0.heap.size w0 W → Row W A ps.length (wds ps) → Calls Tryz.prog 125 #[.pointer (some ⟨s, 0, none⟩), .agg (kS.v k), .slice A ps.length c] W fun e w' => e = .returned (.int .i64 (n1 : Nat)) ∧ SMt base top w' s (M.trim k ps) ∧ Frt base top W w') := Lib.hid fun W A c hw hr => by
  have := strim_any (HS.out.on hw) hl k ps hr hpl (hso ps (List.Perm.refl _)) (d := c) (by have := hw.size; have := b0.size; omega)
  rw [hn1] at this
  exact this
 have CP : Hid (∀ W, Below w0.heap.size w0 W → Calls Tryz.prog 39 #[.pointer (some ⟨tg, 0, none⟩)] W fun e w' => ∃ (A : Option Addr) (c : Nat), e = .returned (.slice A ps.length c) ∧ Row w' A ps.length (wds ps) ∧ Below W.heap.size W w') := Lib.hid fun W hw => Pn.tab_times (HT.out.on hw) hps hso
 have sk : Hid (∀ V, Below w0.heap.size w0 V → V.cell? ⟨g, 0, none⟩ = some (.pointer (some ⟨s, 0, none⟩)) ∧ V.cell? ⟨g, 1, none⟩ = some (.pointer (some ⟨tg, 0, none⟩)) ∧ kS.rd V ⟨w.heap.size, 0, none⟩ = some k) := Lib.hid fun V hV => by
  have h1 := (HW.out.on hV).p_
  have h2 := (HW.out.on hV).t_
  rw [HX.out.1] at h1
  rw [HX.out.2] at h2
  exact ⟨h1, h2, Shp.rd_blk (HB.out.on hV)⟩
 clear hW hp ht hS hT hps hso hbd hn1 B0 hl hpl
 go_enter Tryz.func98, Tryz.ntmps98
 go_wp2_with fail
 try rw [hw0]
 clear hw0
 have bd : Below w0.heap.size w0 w0.drew := (Below.refl _ _).drew
 have sd := sk.out _ bd
 refine wp_region_noPanic ?_
 refine wp_region_held_drew (S := (fun V => V.cell? ⟨g, 0, none⟩ = some (.pointer (some ⟨s, 0, none⟩)) ∧ V.cell? ⟨g, 1, none⟩ = some (.pointer (some ⟨tg, 0, none⟩)) ∧ kS.rd V ⟨w.heap.size, 0, none⟩ = some k)) (by kernel_rfl) sd (fun _ => ?_)
 refine takeT 0 (some 6) ?v2 ?hy2 sd ?rest2
 case hy2 => (intro o ho W hW; simp only [gT, gS, gZ, sI] at ho; subst ho; (try dsimp only at hW); go_simp; try rfl)
 try simp only [Act.put, iT, iZ, iS]
 refine takeT 1 (some 7) ?v3 ?hy3 sd ?rest3
 case hy3 => (intro o ho W hW; simp only [gT, gS, gZ, sI] at ho; subst ho; (try dsimp only at hW); go_simp; try rfl)
 try simp only [Act.put, iT, iZ, iS]
 refine takeT 2 (some 8) ?v4 ?hy4 sd ?rest4
 case hy4 => (intro o ho W hW; simp only [gT, gS, gZ, sI] at ho; subst ho; (try dsimp only at hW); go_simp; try rfl)
 try simp only [Act.put, iT, iZ, iS]
 refine takeT 3 (some 9) ?v5 ?hy5 sd ?rest5
 case hy5 => (intro o ho W hW; simp only [gT, gS, gZ, sI] at ho; subst ho; (try dsimp only at hW); obtain ⟨f1_, f2_, f3_⟩ := hW; go_simp; try rfl)
 try simp only [Act.put, iT, iZ, iS]
 refine takeT 4 (some 10) ?v6 ?hy6 sd ?rest6
 case hy6 => (intro o ho W hW; simp only [gT, gS, gZ, sI] at ho; subst ho; (try dsimp only at hW); obtain ⟨f1_, f2_, f3_⟩ := hW; go_simp; try rfl)
 try simp only [Act.put, iT, iZ, iS]
 refine takeT 5 (some 11) ?v7 ?hy7 sd ?rest7
 case hy7 => (intro o ho W hW; simp only [gT, gS, gZ, sI] at ho; subst ho; (try dsimp only at hW); go_simp; try rfl)
 try simp only [Act.put, iT, iZ, iS]
 refine takeT 6 (some 12) ?v8 ?hy8 sd ?rest8
 case hy8 => (intro o ho W hW; simp only [gT, gS, gZ, sI] at ho; subst ho; (try dsimp only at hW); go_simp; try rfl)
 try simp only [Act.put, iT, iZ, iS]
 refine takeT 7 (some 13) ?v9 ?hy9 sd ?rest9
 case hy9 => (intro o ho W hW; simp only [gT, gS, gZ, sI] at ho; subst ho; (try dsimp only at hW); go_simp; try rfl)
 try simp only [Act.put, iT, iZ, iS]
 refine takeT 8 (some 14) ?v10 ?hy10 sd ?rest10
 case hy10 => (intro o ho W hW; simp only [gT, gS, gZ, sI] at ho; subst ho; (try dsimp only at hW); obtain ⟨f1_, f2_, f3_⟩ := hW; go_simp; try rfl)
 try simp only [Act.put, iT, iZ, iS]
 refine nextS 9 (by kernel_rfl) (by rfl) (fun o ho K hK => ?_)
 simp only [gT, gS, gZ, sI] at ho; subst ho
 go_simp
 go_at_call 39
 refine (CP.out _ bd).mono ?_
 rintro e w2 ⟨A, c, rfl, hr, b2⟩
 have b3 := below_up bd bd.size b2
 refine hK.out _ _ (sk.out _ b3) (fun _ => ?_)
 clear hK K
 try simp only [Act.put, iT, iZ, iS]
 refine nextS 10 (by kernel_rfl) (by rfl) (fun o ho K hK => ?_)
 simp only [gT, gS, gZ, sI] at ho; subst ho
 go_simp
 go_at_call 125
 refine (CT.out _ A c b3 hr).mono ?_
 rintro e w4 ⟨rfl, hS4, fr4⟩
 have HW4 := Lib.hid (fr4.wb (HW.out.on b3))
 have s4 : w4.cell? ⟨g, 0, none⟩ = some (.pointer (some ⟨s, 0, none⟩)) ∧ w4.cell? ⟨g, 1, none⟩ = some (.pointer (some ⟨tg, 0, none⟩)) ∧ kS.rd w4 ⟨w.heap.size, 0, none⟩ = some k := by
  have h1 := HW4.out.p_
  have h2 := HW4.out.t_
  rw [HX.out.1] at h1
  rw [HX.out.2] at h2
  exact ⟨h1, h2, Shp.rd_blk (Frm.blk fr4.frm (HB.out.on b3) (by decide))⟩
 have FR := Lib.hid (Fsw.below_ (base := base) (top := top) (g := g) (below_up b0 b0.size b3) |>.trans (Fsw.of fr4))
 have HS4 := Lib.hid hS4
 clear hS4 fr4 hr
 refine hK.out _ _ s4 (fun _ => ?_)
 clear hK K
 try simp only [Act.put, iT, iZ, iS]
 refine takeT 11 (some 5) ?v15 ?hy15 s4 ?rest15
 case hy15 => (intro o ho W hW; simp only [gT, gS, gZ, sI] at ho; subst ho; (try dsimp only at hW); go_simp; try rfl)
 try simp only [Act.put, iT, iZ, iS]
 refine wpAnyH_done (by kernel_rfl) ?_ _
 refine NoPanic.normal ?_
 have cg := HW4.out.g_
 have fg := HW4.out.f_ 28
 clear s4
 have hsum : x.gn + (n1 : Int) ≤ 2000000000 := by omega
 have hsum0 : 0 ≤ x.gn + (n1 : Int) := by omega
 go_wp2
 go_ret
 obtain ⟨h5, o5⟩ := HW4.out.putg (x.gn + (n1 : Int))
 refine ⟨rfl, h5, ?_, FR.out.trans (Fsw.own o5)⟩
 exact HS4.out.away o5 fun i cs T f hi hT e => by
  subst e
  have := hi.symm.trans HW4.out.blk.out
  injection this with this
  injection this with _ e
  subst e
  exact absurd hT (by decide)
theorem Only.past {S : Nat → Prop} {w W V : World} (h : Only S w W) (k : Below w.heap.size W V) : Only S w V := ⟨k.os.trans h.os, k.tape.trans h.tape, k.output.trans h.output, Nat.le_trans h.size k.size, fun i hi hn => (k.block i hi).trans (h.block i hi hn)⟩
theorem results_ctt {fn : Func} {p q r : Tmp} {ty : TypeId} (h : fn.results = #[.cell p ty, .tmp q, .tmp r]) (tmps : Array Value) (P : Program) (w : World) :
  (results fn tmps).run P w = ((asAddr (tmps.getD p undef)).run P w).andThen fun a w1 => ((loadVar ty a).run P w1).andThen fun u w2 => .ok (.tuple #[u, tmps.getD q undef, tmps.getD r undef]) w2 := by
 simp only [results, h]
 simp [Sem.run_bind, Result.andThen]
set_option maxHeartbeats 4000000 in
theorem wstep_none {base g : Nat} {w : World} {x : Wc} {M : D.Sm} (hW : Wb w g x) (hS : SO base w x.p M) (hn : M.nxt x.k = none) (hr0 : 0 ≤ x.rn) (hr1 : x.rn ≤ 1000000000) :
  Calls Tryz.prog 62 #[.pointer (some ⟨g, 0, none⟩)] w fun e w' => e = .returned (.tuple #[.agg (kS.v D.zK), .int .i64 0, .bool false]) ∧ Wb w' g { x with k := D.zK, rn := x.rn + 1 } ∧ Only (fun i => i = g) w w' := by
 have t0 : Shp.tn 25 (w.alloc (.cells z25 39)) w.heap.size = true := Shp.tn_new _ _ _ _ _ rfl rfl
 have b0 := below_alloc_ w (.cells z25 39)
 have hlt := hW.lt
 obtain ⟨w0, hw0⟩ : ∃ w0, w.alloc (.cells z25 39) = w0 := ⟨_, rfl⟩
 rw [hw0] at b0 t0
 unfold z25 at hw0
 have hz0 := b0.size
 have HB0 := Lib.hid b0
 have HW := Lib.hid (hW.on b0)
 have HT := Lib.hid t0
 have CN : Hid (∀ W, Below w0.heap.size w0 W → Calls Tryz.prog 71 #[.pointer x.p, .agg (kS.v x.k)] W fun e w' => e = .returned (.tuple #[.agg (kS.v D.zK), .bool false]) ∧ Below W.heap.size W w') := Lib.hid fun W hb => by
  have := snext_any ((hS.on b0).on hb) x.k
  rw [hn] at this
  exact this
 clear hW hS hn t0
 go_enter Tryz.func62, Tryz.ntmps62
 go_wp2_with fail
 try rw [hw0]
 clear hw0
 go_upto_region 1 with fail
 go_cut [5, 6] from 7 (fun p5 p6 wc => ∃ b5 : Nat, p5 = .pointer (some ⟨b5, 0, none⟩) ∧ p6 = .bool false ∧ w0.heap.size ≤ b5 ∧ Hid (Below w0.heap.size w0 wc ∧ kS.rd wc ⟨b5, 0, none⟩ = some D.zK ∧ Shp.tn 25 wc b5 = true))
 case first =>
  have b1 : Below w0.heap.size w0 w0.drew := (Below.refl _ _).drew
  refine wp_region_noPanic ?_
  refine wp_region_held_drew (S := (fun V => Below w0.heap.size w0 V)) (by kernel_rfl) b1 (fun _ => ?_)
  refine takeT 0 (some 8) ?v2 ?hy2 b1 ?rest2
  case hy2 => (intro o ho W hW; simp only [gT, gS, gZ, sI] at ho; subst ho; (try dsimp only at hW); go_simp; try rfl)
  try simp only [Act.put, iT, iZ, iS]
  refine takeT 1 (some 9) ?v3 ?hy3 b1 ?rest3
  case hy3 => (intro o ho W hW; simp only [gT, gS, gZ, sI] at ho; subst ho; (try dsimp only at hW); go_simp; try rfl)
  try simp only [Act.put, iT, iZ, iS]
  refine takeT 2 (some 10) ?v4 ?hy4 b1 ?rest4
  case hy4 => (intro o ho W hW; simp only [gT, gS, gZ, sI] at ho; subst ho; (try dsimp only at hW); go_simp; try rfl)
  try simp only [Act.put, iT, iZ, iS]
  refine takeT 3 (some 11) ?v5 ?hy5 b1 ?rest5
  case hy5 => (intro o ho W hW; simp only [gT, gS, gZ, sI] at ho; subst ho; (try dsimp only at hW); have f_ := (HW.out.on hW).p_; go_simp; try rfl)
  try simp only [Act.put, iT, iZ, iS]
  refine takeT 4 (some 12) ?v6 ?hy6 b1 ?rest6
  case hy6 => (intro o ho W hW; simp only [gT, gS, gZ, sI] at ho; subst ho; (try dsimp only at hW); go_simp; try rfl)
  try simp only [Act.put, iT, iZ, iS]
  refine takeT 5 (some 13) ?v7 ?hy7 b1 ?rest7
  case hy7 => (intro o ho W hW; simp only [gT, gS, gZ, sI] at ho; subst ho; (try dsimp only at hW); go_simp; try rfl)
  try simp only [Act.put, iT, iZ, iS]
  refine takeT 6 (some 14) ?v8 ?hy8 b1 ?rest8
  case hy8 => (intro o ho W hW; simp only [gT, gS, gZ, sI] at ho; subst ho; (try dsimp only at hW); go_simp; try rfl)
  try simp only [Act.put, iT, iZ, iS]
  refine takeT 7 (some 15) ?v9 ?hy9 b1 ?rest9
  case hy9 => (intro o ho W hW; simp only [gT, gS, gZ, sI] at ho; subst ho; (try dsimp only at hW); have f_ := (HW.out.on hW).k_; go_simp; try rfl)
  try simp only [Act.put, iT, iZ, iS]
  refine forkS 8 12 (by kernel_rfl) (by rfl) (by rfl) (fun o ho K hK => ?_) (fun o ho K hK => ?_)
  ·simp only [gT, gS, gZ, sI] at ho; subst ho
   go_simp
   go_at_call 71
   refine (CN.out _ b1).mono ?_
   rintro e w2 ⟨rfl, b2⟩
   have b3 := below_up b1 b1.size b2
   refine hK.out _ _ b3 (fun _ => ?_)
   clear hK K
   try simp only [Act.put, iT, iZ, iS]
   refine takeT 9 (some 7) ?v11 ?hy11 b3 ?rest11
   case hy11 => (intro o ho W hW; simp only [gT, gS, gZ, sI] at ho; subst ho; (try dsimp only at hW); go_simp; try rfl)
   try simp only [Act.put, iT, iZ, iS]
   refine takeT 10 (some 17) ?v12 ?hy12 b3 ?rest12
   case hy12 => (intro o ho W hW; simp only [gT, gS, gZ, sI] at ho; subst ho; (try dsimp only at hW); go_simp; try rfl)
   try simp only [Act.put, iT, iZ, iS]
   refine takeT 11 (some 18) ?v13 ?hy13 b3 ?rest13
   case hy13 => (intro o ho W hW; simp only [gT, gS, gZ, sI] at ho; subst ho; (try dsimp only at hW); go_simp; try rfl)
   try simp only [Act.put, iT, iZ, iS]
   have b4 := below_up b3 b3.size (below_alloc_ w2 (.cells z25 39))
   have t4 : Shp.tn 25 (w2.alloc (.cells z25 39)) w2.heap.size = true := Shp.tn_new _ _ _ _ _ rfl rfl
   obtain ⟨w4, hw4⟩ : ∃ w4, w2.alloc (.cells z25 39) = w4 := ⟨_, rfl⟩
   rw [hw4] at b4 t4
   unfold z25 at hw4
   obtain ⟨b5, hb5⟩ : ∃ b5, w2.heap.size = b5 := ⟨_, rfl⟩
   have hle : w0.heap.size ≤ b5 := by rw [← hb5]; exact b3.size
   rw [hb5] at t4
   refine nextS 12 (by kernel_rfl) (by rfl) (fun o ho K hK => ?_)
   simp only [gT, gS, gZ, sI] at ho; subst ho
   go_simp
   try rw [hw4]
   try rw [hb5]
   clear hw4
   refine hK.out _ _ b4 (fun _ => ?_)
   clear hK K
   try simp only [Act.put, iT, iZ, iS]
   refine nextS 13 (by kernel_rfl) (by rfl) (fun o ho K hK => ?_)
   simp only [gT, gS, gZ, sI] at ho; subst ho
   go_simp
   have b6 : Below w0.heap.size w0 (w4.setRow b5 (kS.v D.zK)) := bel_setRow b4 hle _
   refine hK.out _ _ b6 (fun _ => ?_)
   clear hK K
   try simp only [Act.put, iT, iZ, iS]
   refine takeT 14 (some 6) ?v18 ?hy18 b6 ?rest18
   case hy18 => (intro o ho W hW; simp only [gT, gS, gZ, sI] at ho; subst ho; (try dsimp only at hW); go_simp; try rfl)
   try simp only [Act.put, iT, iZ, iS]
   refine wpAnyH_done (by kernel_rfl) ?_ _
   refine NoPanic.normal ?_
   go_wp2_with fail
   go_meet
   case rel => exact ⟨b5, rfl, rfl, hle, Lib.hid ⟨b6, Shp.rd_set (S := kS) w4 b5 D.zK t4, Shp.tn_setRow _ (by rw [kS.v_size]; rfl) t4⟩⟩
  ·simp only [gT, gS, gZ, sI] at ho; subst ho
   have b2 := below_up b1 b1.size (below_alloc_ w0.drew (.cells z25 39))
   have t2 : Shp.tn 25 (w0.drew.alloc (.cells z25 39)) w0.drew.heap.size = true := Shp.tn_new _ _ _ _ _ rfl rfl
   obtain ⟨wd, hwd⟩ : ∃ wd, w0.drew = wd := ⟨_, rfl⟩
   rw [hwd] at b1 b2 t2 ⊢
   obtain ⟨w2, hw2⟩ : ∃ w2, wd.alloc (.cells z25 39) = w2 := ⟨_, rfl⟩
   rw [hw2] at b2 t2
   unfold z25 at hw2
   obtain ⟨b5, hb5⟩ : ∃ b5, wd.heap.size = b5 := ⟨_, rfl⟩
   have hle : w0.heap.size ≤ b5 := by rw [← hb5]; exact b1.size
   rw [hb5] at t2
   go_simp
   try rw [hw2]
   try rw [hb5]
   clear hw2
   refine hK.out _ _ b2 (fun _ => ?_)
   clear hK K
   try simp only [Act.put, iT, iZ, iS]
   refine nextS 8 (by kernel_rfl) (by rfl) (fun o ho K hK => ?_)
   simp only [gT, gS, gZ, sI] at ho; subst ho
   go_simp
   go_at_call 71
   refine (CN.out _ b2).mono ?_
   rintro e w4 ⟨rfl, b3⟩
   have t4 := Shp.tn_on t2 b3
   have b4 := below_up b2 b2.size b3
   refine hK.out _ _ b4 (fun _ => ?_)
   clear hK K
   try simp only [Act.put, iT, iZ, iS]
   refine takeT 9 (some 7) ?v23 ?hy23 b4 ?rest23
   case hy23 => (intro o ho W hW; simp only [gT, gS, gZ, sI] at ho; subst ho; (try dsimp only at hW); go_simp; try rfl)
   try simp only [Act.put, iT, iZ, iS]
   refine takeT 10 (some 17) ?v24 ?hy24 b4 ?rest24
   case hy24 => (intro o ho W hW; simp only [gT, gS, gZ, sI] at ho; subst ho; (try dsimp only at hW); go_simp; try rfl)
   try simp only [Act.put, iT, iZ, iS]
   refine takeT 11 (some 18) ?v25 ?hy25 b4 ?rest25
   case hy25 => (intro o ho W hW; simp only [gT, gS, gZ, sI] at ho; subst ho; (try dsimp only at hW); go_simp; try rfl)
   try simp only [Act.put, iT, iZ, iS]
   refine nextS 13 (by kernel_rfl) (by rfl) (fun o ho K hK => ?_)
   simp only [gT, gS, gZ, sI] at ho; subst ho
   go_simp
   have b6 : Below w0.heap.size w0 (w4.setRow b5 (kS.v D.zK)) := bel_setRow b4 hle _
   refine hK.out _ _ b6 (fun _ => ?_)
   clear hK K
   try simp only [Act.put, iT, iZ, iS]
   refine takeT 14 (some 6) ?v28 ?hy28 b6 ?rest28
   case hy28 => (intro o ho W hW; simp only [gT, gS, gZ, sI] at ho; subst ho; (try dsimp only at hW); go_simp; try rfl)
   try simp only [Act.put, iT, iZ, iS]
   refine wpAnyH_done (by kernel_rfl) ?_ _
   refine NoPanic.normal ?_
   go_wp2_with fail
   go_meet
   case rel => exact ⟨b5, rfl, rfl, hle, Lib.hid ⟨b6, Shp.rd_set (S := kS) w4 b5 D.zK t4, Shp.tn_setRow _ (by rw [kS.v_size]; rfl) t4⟩⟩
 case rest =>
  obtain ⟨b5, rfl, rfl, hle, HC⟩ := hcut
  have HW6 := Lib.hid (HW.out.on HC.out.1)
  have HT6 := Lib.hid (Shp.tn_on HT.out HC.out.1)
  have f5 := HC.out.2.1
  obtain ⟨hst, h7, o7⟩ := HW6.out.putk D.zK
  obtain ⟨w7, hw7⟩ : ∃ w7, wc.setCells g 2 (bys D.zK.l) = w7 := ⟨_, rfl⟩
  rw [hw7] at hst h7 o7
  have ne5 : g ≠ b5 := by omega
  have c7 := h7.r_
  have F7 := h7.f_ 27
  obtain ⟨h8, o8⟩ := h7.putr (x.rn + 1)
  have o9 : Only (fun i => i = g) wc (w7.setCell ⟨g, 27, none⟩ (.int .i64 (x.rn + 1))) := Only.trans (S := fun i => i = g) o7 o8 fun i hi => .inl hi
  have f8 : kS.rd (w7.setCell ⟨g, 27, none⟩ (.int .i64 (x.rn + 1))) ⟨b5, 0, none⟩ = some D.zK := (Shp.rd_to (o9.block b5 (Shp.rd_lt f5) (fun e => ne5 e.symm))).trans f5
  have t8 : Shp.tn 25 (w7.setCell ⟨g, 27, none⟩ (.int .i64 (x.rn + 1))) w.heap.size = true := (Shp.tn_to (o9.block w.heap.size (Shp.tn_lt HT6.out) (fun e => by omega))).trans HT6.out
  have H8 := Lib.hid h8
  have O9 := Lib.hid o9
  clear h7 h8 o7 o8 o9 hw7
  go_wp2
  have hset := Shp.rd_set (S := kS) _ w.heap.size D.zK t8
  have bz := bel_setRow (Below.refl w.heap.size (w7.setCell ⟨g, 27, none⟩ (.int .i64 (x.rn + 1)))) (Nat.le_refl _) (kS.v D.zK)
  refine bodyPost_ret (v := .tuple #[.agg (kS.v D.zK), .int .i64 0, .bool false]) (by rw [results_ctt rfl]; simp [asAddr, Result.andThen, lvk_of hset]) rfl ⟨rfl, ⟨⟨(bz.block g hlt).trans H8.out.blk.out⟩⟩, ?_⟩
  have P1 : Only (fun i => i = g) w wc := Only.on (only_below HB0.out) HC.out.1
  have P2 := Only.trans (S := fun i => i = g) P1 O9.out fun i hi => .inl hi
  exact P2.past bz
theorem only_row (w : World) (h : Nat) (cs : Array Value) : Only (fun i => i = h) w (w.setRow h cs) := ⟨rfl, rfl, rfl, by simp [World.setRow], fun i _ hn => heap_setRow w h i cs hn⟩
theorem blk_row {w : World} {g : Nat} {t : TypeId} {cs cs' : Array Value} (h : Blk w g t cs) : Blk (w.setRow g cs') g t cs' := ⟨by have := h.out; simp [World.setRow, Array.getElem?_modify, this]⟩
set_option maxHeartbeats 8000000 in
theorem wstep_some {base top s g tb tg : Nat} {m : Option Nat} {w : World} {M : D.Sm} {x : Wc} {l : Pn.D.Ps} (hW : Wb w g x) (hp : x.p = some ⟨s, 0, none⟩) (ht : x.t = some ⟨tg, 0, none⟩) (hS : SMt base top w s M) (hT : Pn.Tab tb w tg m l) (hl : M.last ≤ 1000) {ps : List Nat} (hps : Pn.Tms l ps) (hpl : ps.length ≤ 1000) (hso : ∀ ss : List Nat, ss.Perm ps → SOk ss) {k : D.Ky} (hn : M.nxt x.k = some k) (hg0 : 0 ≤ x.gn) (hg1 : x.gn ≤ 1000000000) (hb : base ≤ w.heap.size) :
  Calls Tryz.prog 62 #[.pointer (some ⟨g, 0, none⟩)] w fun e w' => e = .returned (.tuple #[.agg (kS.v k), .int .i64 (M.went k ps : Nat), .bool true]) ∧ Wb w' g { x with k := k, gn := x.gn + (M.went k ps : Nat) } ∧ SMt base top w' s (M.trim k ps) ∧ Fsw base top g w w' := by
 have t0 : Shp.tn 25 (w.alloc (.cells z25 39)) w.heap.size = true := Shp.tn_new _ _ _ _ _ rfl rfl
 have b0 := below_alloc_ w (.cells z25 39)
 have hlt := hW.lt
 have BT := Blk.new w 39 z25
 obtain ⟨w0, hw0⟩ : ∃ w0, w.alloc (.cells z25 39) = w0 := ⟨_, rfl⟩
 rw [hw0] at b0 t0 BT
 have hT0 := Shp.tn_lt t0
 have HBQ := Lib.hid BT
 clear BT
 unfold z25 at hw0
 have hz0 := b0.size
 have HB0 := Lib.hid b0
 have HW := Lib.hid (hW.on b0)
 have HT := Lib.hid t0
 have HS := Lib.hid (hS.on b0)
 have HTB := Lib.hid (hT.on b0)
 have HX : Hid (x.p = some ⟨s, 0, none⟩ ∧ x.t = some ⟨tg, 0, none⟩) := Lib.hid ⟨hp, ht⟩
 have CN : Hid (∀ W, Below w0.heap.size w0 W → Calls Tryz.prog 71 #[.pointer x.p, .agg (kS.v x.k)] W fun e w' => e = .returned (.tuple #[.agg (kS.v k), .bool true]) ∧ Below W.heap.size W w') := Lib.hid fun W hb => by
  rw [HX.out.1]
  have := snext_any (SO.of ((HS.out.on hb).sm)) x.k
  rw [hn] at this
  exact this
 have CT : Hid (∀ W V : World, Below w0.heap.size w0 V → Only (fun i => i = g) V W → Wb W g { x with k := k } → Calls Tryz.prog 98 #[.pointer (some ⟨g, 0, none⟩), .agg (kS.v k)] W fun e w' => e = .returned (.int .i64 (M.went k ps : Nat)) ∧ Wb w' g { x with k := k, gn := x.gn + (M.went k ps : Nat) } ∧ SMt base top w' s (M.trim k ps) ∧ Fsw base top g W w') := Lib.hid fun W V hV hO hW1 => by
  have h1 : SMt base top W s M := (HS.out.on hV).away hO fun i cs T f hi hT e => by
   subst e
   have := hi.symm.trans (HW.out.on hV).blk.out
   injection this with this
   injection this with _ e
   subst e
   exact absurd hT (by decide)
  have h2 : Pn.Tab tb W tg m l := (Fsw.own (base := base) (top := top) hO).tab (HTB.out.on hV) (HW.out.on hV)
  exact wtrim_any hW1 HX.out.1 HX.out.2 h1 h2 hl hps hpl hso k hg0 hg1 (by have := hV.size; have := hO.size; omega)
 obtain ⟨n1, hn1⟩ : ∃ n1, M.went k ps = n1 := ⟨_, rfl⟩
 rw [hn1] at CT ⊢
 clear hW hp ht hS hT hps hso hn t0 hl hpl
 go_enter Tryz.func62, Tryz.ntmps62
 go_wp2_with fail
 try rw [hw0]
 clear hw0
 go_upto_region 1 with fail
 go_cut [5, 6] from 7 (fun p5 p6 wc => ∃ b5 : Nat, p5 = .pointer (some ⟨b5, 0, none⟩) ∧ p6 = .bool true ∧ w0.heap.size ≤ b5 ∧ Hid (Below w0.heap.size w0 wc ∧ kS.rd wc ⟨b5, 0, none⟩ = some k ∧ Shp.tn 25 wc b5 = true ∧ Blk wc b5 39 (kS.v k)))
 case first =>
  have b1 : Below w0.heap.size w0 w0.drew := (Below.refl _ _).drew
  refine wp_region_noPanic ?_
  refine wp_region_held_drew (S := (fun V => Below w0.heap.size w0 V)) (by kernel_rfl) b1 (fun _ => ?_)
  refine takeT 0 (some 8) ?v2 ?hy2 b1 ?rest2
  case hy2 => (intro o ho W hW; simp only [gT, gS, gZ, sI] at ho; subst ho; (try dsimp only at hW); go_simp; try rfl)
  try simp only [Act.put, iT, iZ, iS]
  refine takeT 1 (some 9) ?v3 ?hy3 b1 ?rest3
  case hy3 => (intro o ho W hW; simp only [gT, gS, gZ, sI] at ho; subst ho; (try dsimp only at hW); go_simp; try rfl)
  try simp only [Act.put, iT, iZ, iS]
  refine takeT 2 (some 10) ?v4 ?hy4 b1 ?rest4
  case hy4 => (intro o ho W hW; simp only [gT, gS, gZ, sI] at ho; subst ho; (try dsimp only at hW); go_simp; try rfl)
  try simp only [Act.put, iT, iZ, iS]
  refine takeT 3 (some 11) ?v5 ?hy5 b1 ?rest5
  case hy5 => (intro o ho W hW; simp only [gT, gS, gZ, sI] at ho; subst ho; (try dsimp only at hW); have f_ := (HW.out.on hW).p_; go_simp; try rfl)
  try simp only [Act.put, iT, iZ, iS]
  refine takeT 4 (some 12) ?v6 ?hy6 b1 ?rest6
  case hy6 => (intro o ho W hW; simp only [gT, gS, gZ, sI] at ho; subst ho; (try dsimp only at hW); go_simp; try rfl)
  try simp only [Act.put, iT, iZ, iS]
  refine takeT 5 (some 13) ?v7 ?hy7 b1 ?rest7
  case hy7 => (intro o ho W hW; simp only [gT, gS, gZ, sI] at ho; subst ho; (try dsimp only at hW); go_simp; try rfl)
  try simp only [Act.put, iT, iZ, iS]
  refine takeT 6 (some 14) ?v8 ?hy8 b1 ?rest8
  case hy8 => (intro o ho W hW; simp only [gT, gS, gZ, sI] at ho; subst ho; (try dsimp only at hW); go_simp; try rfl)
  try simp only [Act.put, iT, iZ, iS]
  refine takeT 7 (some 15) ?v9 ?hy9 b1 ?rest9
  case hy9 => (intro o ho W hW; simp only [gT, gS, gZ, sI] at ho; subst ho; (try dsimp only at hW); have f_ := (HW.out.on hW).k_; go_simp; try rfl)
  try simp only [Act.put, iT, iZ, iS]
  refine forkS 8 12 (by kernel_rfl) (by rfl) (by rfl) (fun o ho K hK => ?_) (fun o ho K hK => ?_)
  ·simp only [gT, gS, gZ, sI] at ho; subst ho
   go_simp
   go_at_call 71
   refine (CN.out _ b1).mono ?_
   rintro e w2 ⟨rfl, b2⟩
   have b3 := below_up b1 b1.size b2
   refine hK.out _ _ b3 (fun _ => ?_)
   clear hK K
   try simp only [Act.put, iT, iZ, iS]
   refine takeT 9 (some 7) ?v11 ?hy11 b3 ?rest11
   case hy11 => (intro o ho W hW; simp only [gT, gS, gZ, sI] at ho; subst ho; (try dsimp only at hW); go_simp; try rfl)
   try simp only [Act.put, iT, iZ, iS]
   refine takeT 10 (some 17) ?v12 ?hy12 b3 ?rest12
   case hy12 => (intro o ho W hW; simp only [gT, gS, gZ, sI] at ho; subst ho; (try dsimp only at hW); go_simp; try rfl)
   try simp only [Act.put, iT, iZ, iS]
   refine takeT 11 (some 18) ?v13 ?hy13 b3 ?rest13
   case hy13 => (intro o ho W hW; simp only [gT, gS, gZ, sI] at ho; subst ho; (try dsimp only at hW); go_simp; try rfl)
   try simp only [Act.put, iT, iZ, iS]
   have b4 := below_up b3 b3.size (below_alloc_ w2 (.cells z25 39))
   have t4 : Shp.tn 25 (w2.alloc (.cells z25 39)) w2.heap.size = true := Shp.tn_new _ _ _ _ _ rfl rfl
   have B4 := Blk.new w2 39 z25
   obtain ⟨w4, hw4⟩ : ∃ w4, w2.alloc (.cells z25 39) = w4 := ⟨_, rfl⟩
   rw [hw4] at b4 t4 B4
   unfold z25 at hw4
   obtain ⟨b5, hb5⟩ : ∃ b5, w2.heap.size = b5 := ⟨_, rfl⟩
   have hle : w0.heap.size ≤ b5 := by rw [← hb5]; exact b3.size
   rw [hb5] at t4 B4
   refine nextS 12 (by kernel_rfl) (by rfl) (fun o ho K hK => ?_)
   simp only [gT, gS, gZ, sI] at ho; subst ho
   go_simp
   try rw [hw4]
   try rw [hb5]
   clear hw4
   refine hK.out _ _ b4 (fun _ => ?_)
   clear hK K
   try simp only [Act.put, iT, iZ, iS]
   refine nextS 13 (by kernel_rfl) (by rfl) (fun o ho K hK => ?_)
   simp only [gT, gS, gZ, sI] at ho; subst ho
   go_simp
   have b6 : Below w0.heap.size w0 (w4.setRow b5 (kS.v k)) := bel_setRow b4 hle _
   refine hK.out _ _ b6 (fun _ => ?_)
   clear hK K
   try simp only [Act.put, iT, iZ, iS]
   refine takeT 14 (some 6) ?v18 ?hy18 b6 ?rest18
   case hy18 => (intro o ho W hW; simp only [gT, gS, gZ, sI] at ho; subst ho; (try dsimp only at hW); go_simp; try rfl)
   try simp only [Act.put, iT, iZ, iS]
   refine wpAnyH_done (by kernel_rfl) ?_ _
   refine NoPanic.normal ?_
   go_wp2_with fail
   go_meet
   case rel => exact ⟨b5, rfl, rfl, hle, Lib.hid ⟨b6, Shp.rd_set (S := kS) w4 b5 k t4, Shp.tn_setRow _ (by rw [kS.v_size]; rfl) t4, blk_row B4⟩⟩
  ·simp only [gT, gS, gZ, sI] at ho; subst ho
   have b2 := below_up b1 b1.size (below_alloc_ w0.drew (.cells z25 39))
   have t2 : Shp.tn 25 (w0.drew.alloc (.cells z25 39)) w0.drew.heap.size = true := Shp.tn_new _ _ _ _ _ rfl rfl
   obtain ⟨wd, hwd⟩ : ∃ wd, w0.drew = wd := ⟨_, rfl⟩
   rw [hwd] at b1 b2 t2 ⊢
   have B2 := Blk.new wd 39 z25
   obtain ⟨w2, hw2⟩ : ∃ w2, wd.alloc (.cells z25 39) = w2 := ⟨_, rfl⟩
   rw [hw2] at b2 t2 B2
   unfold z25 at hw2
   obtain ⟨b5, hb5⟩ : ∃ b5, wd.heap.size = b5 := ⟨_, rfl⟩
   have hle : w0.heap.size ≤ b5 := by rw [← hb5]; exact b1.size
   rw [hb5] at t2 B2
   go_simp
   try rw [hw2]
   try rw [hb5]
   clear hw2
   refine hK.out _ _ b2 (fun _ => ?_)
   clear hK K
   try simp only [Act.put, iT, iZ, iS]
   refine nextS 8 (by kernel_rfl) (by rfl) (fun o ho K hK => ?_)
   simp only [gT, gS, gZ, sI] at ho; subst ho
   go_simp
   go_at_call 71
   refine (CN.out _ b2).mono ?_
   rintro e w4 ⟨rfl, b3⟩
   have t4 := Shp.tn_on t2 b3
   have B4 := B2.on b3
   have b4 := below_up b2 b2.size b3
   refine hK.out _ _ b4 (fun _ => ?_)
   clear hK K
   try simp only [Act.put, iT, iZ, iS]
   refine takeT 9 (some 7) ?v23 ?hy23 b4 ?rest23
   case hy23 => (intro o ho W hW; simp only [gT, gS, gZ, sI] at ho; subst ho; (try dsimp only at hW); go_simp; try rfl)
   try simp only [Act.put, iT, iZ, iS]
   refine takeT 10 (some 17) ?v24 ?hy24 b4 ?rest24
   case hy24 => (intro o ho W hW; simp only [gT, gS, gZ, sI] at ho; subst ho; (try dsimp only at hW); go_simp; try rfl)
   try simp only [Act.put, iT, iZ, iS]
   refine takeT 11 (some 18) ?v25 ?hy25 b4 ?rest25
   case hy25 => (intro o ho W hW; simp only [gT, gS, gZ, sI] at ho; subst ho; (try dsimp only at hW); go_simp; try rfl)
   try simp only [Act.put, iT, iZ, iS]
   refine nextS 13 (by kernel_rfl) (by rfl) (fun o ho K hK => ?_)
   simp only [gT, gS, gZ, sI] at ho; subst ho
   go_simp
   have b6 : Below w0.heap.size w0 (w4.setRow b5 (kS.v k)) := bel_setRow b4 hle _
   refine hK.out _ _ b6 (fun _ => ?_)
   clear hK K
   try simp only [Act.put, iT, iZ, iS]
   refine takeT 14 (some 6) ?v28 ?hy28 b6 ?rest28
   case hy28 => (intro o ho W hW; simp only [gT, gS, gZ, sI] at ho; subst ho; (try dsimp only at hW); go_simp; try rfl)
   try simp only [Act.put, iT, iZ, iS]
   refine wpAnyH_done (by kernel_rfl) ?_ _
   refine NoPanic.normal ?_
   go_wp2_with fail
   go_meet
   case rel => exact ⟨b5, rfl, rfl, hle, Lib.hid ⟨b6, Shp.rd_set (S := kS) w4 b5 k t4, Shp.tn_setRow _ (by rw [kS.v_size]; rfl) t4, blk_row B4⟩⟩
 case rest =>
  obtain ⟨b5, rfl, rfl, hle, HC⟩ := hcut
  have HW6 := Lib.hid (HW.out.on HC.out.1)
  have f5 := HC.out.2.1
  obtain ⟨hst, h7, o7⟩ := HW6.out.putk k
  obtain ⟨w7, hw7⟩ : ∃ w7, wc.setCells g 2 (bys k.l) = w7 := ⟨_, rfl⟩
  rw [hw7] at hst h7 o7
  have ne5 : b5 ≠ g := by omega
  have B7 := Lib.hid (HC.out.2.2.2.only o7 ne5)
  have HBT := Lib.hid ((HBQ.out.on HC.out.1).only o7 (fun e => by omega))
  have H7 := Lib.hid h7
  have O7 := Lib.hid o7
  clear h7 o7 hw7
  go_upto_region 6 with fail
  have bd : Below w7.heap.size w7 w7.drew := (Below.refl _ _).drew
  have sd : kS.rd w7.drew ⟨b5, 0, none⟩ = some k := Shp.rd_blk (B7.out.on bd)
  refine wp_region_noPanic ?_
  refine wp_region_held_drew (S := (fun V => kS.rd V ⟨b5, 0, none⟩ = some k)) (by kernel_rfl) sd (fun _ => ?_)
  refine takeT 0 (some 33) ?v31 ?hy31 sd ?rest31
  case hy31 => (intro o ho W hW; simp only [gT, gS, gZ, sI] at ho; subst ho; (try dsimp only at hW); have f_ := hW; go_simp; try rfl)
  try simp only [Act.put, iT, iZ, iS]
  refine takeT 1 (some 34) ?v32 ?hy32 sd ?rest32
  case hy32 => (intro o ho W hW; simp only [gT, gS, gZ, sI] at ho; subst ho; (try dsimp only at hW); go_simp; try rfl)
  try simp only [Act.put, iT, iZ, iS]
  refine takeT 2 (some 35) ?v33 ?hy33 sd ?rest33
  case hy33 => (intro o ho W hW; simp only [gT, gS, gZ, sI] at ho; subst ho; (try dsimp only at hW); have f_ := hW; go_simp; try rfl)
  try simp only [Act.put, iT, iZ, iS]
  refine nextS 3 (by kernel_rfl) (by rfl) (fun o ho K hK => ?_)
  simp only [gT, gS, gZ, sI] at ho; subst ho
  go_simp
  go_at_call 98
  refine (CT.out _ wc HC.out.1 (O7.out.on bd) (H7.out.on bd)).mono ?_
  rintro e w9 ⟨rfl, hW9, hS9, fr9⟩
  have s9 : kS.rd w9 ⟨b5, 0, none⟩ = some k := Shp.rd_blk (fr9.blk (B7.out.on bd) (by decide) ne5)
  have B9 := Lib.hid (fr9.blk (HBT.out.on bd) (by decide) (fun e => by omega))
  have t9 : Shp.tn 25 w9 w.heap.size = true := Shp.tn_of B9.out rfl
  have HW9 := Lib.hid hW9
  have HS9 := Lib.hid hS9
  have HF9 := Lib.hid ((((Fsw.below_ (base := base) (top := top) (g := g) (below_up HB0.out HB0.out.size HC.out.1)).trans (Fsw.own O7.out)).on bd).trans fr9)
  clear hW9 hS9 fr9
  refine hK.out _ _ s9 (fun _ => ?_)
  clear hK K
  try simp only [Act.put, iT, iZ, iS]
  refine nextS 4 (by kernel_rfl) (by rfl) (fun o ho K hK => ?_)
  simp only [gT, gS, gZ, sI] at ho; subst ho
  go_simp
  have s10 : kS.rd (w9.setRow w.heap.size (kS.v k)) ⟨b5, 0, none⟩ = some k := (Shp.rd_far _ _ _ _ (by simp only; omega)).trans s9
  refine hK.out _ _ s10 (fun _ => ?_)
  clear hK K
  try simp only [Act.put, iT, iZ, iS]
  refine takeT 5 (some 3) ?v38 ?hy38 s10 ?rest38
  case hy38 => (intro o ho W hW; simp only [gT, gS, gZ, sI] at ho; subst ho; (try dsimp only at hW); go_simp; try rfl)
  try simp only [Act.put, iT, iZ, iS]
  refine takeT 6 (some 4) ?v39 ?hy39 s10 ?rest39
  case hy39 => (intro o ho W hW; simp only [gT, gS, gZ, sI] at ho; subst ho; (try dsimp only at hW); go_simp; try rfl)
  try simp only [Act.put, iT, iZ, iS]
  refine wpAnyH_done (by kernel_rfl) ?_ _
  refine NoPanic.normal ?_
  go_wp2
  have hset := Shp.rd_set (S := kS) w9 w.heap.size k t9
  have ho : Only (fun i => i = w.heap.size) w9 (w9.setRow w.heap.size (kS.v k)) := only_row _ _ _
  refine bodyPost_ret (v := .tuple #[.agg (kS.v k), .int .i64 (n1 : Nat), .bool true]) (by rw [results_ctt rfl]; simp [asAddr, Result.andThen, lvk_of hset]) rfl ⟨rfl, ⟨HW9.out.blk.only ho (fun e => by omega)⟩, HS9.out.away ho (fun i cs T f hi hT e => by
   subst e
   have := hi.symm.trans B9.out.out
   injection this with this
   injection this with _ e
   subst e
   exact absurd hT (by decide)), ?_⟩
  exact Only.trans (S := fun i => i = g ∨ ((base ≤ i ∧ Sty w i) ∧ i < top)) HF9.out ho fun i hi => .inr (by omega)
theorem step_wrap {g : Nat} {w : World} {k : D.Ky} {n : Int} {b : Bool} {P Q : World → Prop}
  (h : Calls Tryz.prog 62 #[.pointer (some ⟨g, 0, none⟩)] (w.alloc (.cells z25 39)) fun e w' => e = .returned (.tuple #[.agg (kS.v k), .int .i64 n, .bool b]) ∧ P w' ∧ Blk w' w.heap.size 39 z25)
  (hQ : ∀ w', P w' → Q (w'.setRow w.heap.size (kS.v k))) : Calls Tryz.prog 25 #[.pointer (some ⟨g, 0, none⟩)] w fun e w' => e = .returned (.tuple #[.agg (kS.v k), .int .i64 n, .bool b]) ∧ Q w' := by
 have HQ := Lib.hid hQ
 have HS := Lib.hid h
 clear h hQ
 obtain ⟨w0, hw0⟩ : ∃ w0, w.alloc (.cells z25 39) = w0 := ⟨_, rfl⟩
 rw [hw0] at HS
 unfold z25 at hw0
 go_enter Tryz.func25, Tryz.ntmps25
 go_wp2_with fail
 try rw [hw0]
 clear hw0
 go_wp2_with (first
  | (go_at_call 61; refine (orIdle_any g _).mono ?_; rintro e w1 ⟨rfl, rfl⟩)
  | (go_at_call 62; (with_reducible refine HS.out.mono ?_); rintro e w2 ⟨rfl, hp, hbx⟩; have t2 : Shp.tn 25 w2 w.heap.size = true := Shp.tn_of hbx rfl; have HP := Lib.hid hp; clear hp hbx))
 have hset := Shp.rd_set (S := kS) w2 w.heap.size k t2
 refine bodyPost_ret (v := .tuple #[.agg (kS.v k), .int .i64 n, .bool b]) (by rw [results_ctt rfl]; simp [asAddr, Result.andThen, lvk_of hset]) rfl ⟨rfl, HQ.out _ HP.out⟩
theorem wStep_none {base g : Nat} {w : World} {x : Wc} {M : D.Sm} (hW : Wb w g x) (hS : SO base w x.p M) (hn : M.nxt x.k = none) (hr0 : 0 ≤ x.rn) (hr1 : x.rn ≤ 1000000000) :
  Calls Tryz.prog 25 #[.pointer (some ⟨g, 0, none⟩)] w fun e w' => e = .returned (.tuple #[.agg (kS.v D.zK), .int .i64 0, .bool false]) ∧ Wb w' g { x with k := D.zK, rn := x.rn + 1 } ∧ Only (fun i => i = g) w w' := by
 have b0 := below_alloc_ w (.cells z25 39)
 have hlt := hW.lt
 refine step_wrap (P := fun w' => Wb w' g { x with k := D.zK, rn := x.rn + 1 } ∧ Only (fun i => i = g) (w.alloc (.cells z25 39)) w') ((wstep_none (hW.on b0) (hS.on b0) hn hr0 hr1).mono fun e w' ⟨h1, h2, h3⟩ => ⟨h1, ⟨h2, h3⟩, (Blk.new w 39 z25).only h3 (fun e => by omega)⟩) fun w' ⟨h1, h2⟩ => ?_
 have ho := only_row w' w.heap.size (kS.v D.zK)
 refine ⟨⟨h1.blk.only ho (fun e => by omega)⟩, ?_⟩
 have P1 : Only (fun i => i = g) w w' := Only.trans (S := fun i => i = g) (only_below b0) h2 fun i hi => .inl hi
 exact Only.trans (S := fun i => i = g) P1 ho fun i hi => .inr (by omega)
theorem wStep_some {base top s g tb tg : Nat} {m : Option Nat} {w : World} {M : D.Sm} {x : Wc} {l : Pn.D.Ps} (hW : Wb w g x) (hp : x.p = some ⟨s, 0, none⟩) (ht : x.t = some ⟨tg, 0, none⟩) (hS : SMt base top w s M) (hT : Pn.Tab tb w tg m l) (hl : M.last ≤ 1000) {ps : List Nat} (hps : Pn.Tms l ps) (hpl : ps.length ≤ 1000) (hso : ∀ ss : List Nat, ss.Perm ps → SOk ss) {k : D.Ky} (hn : M.nxt x.k = some k) (hg0 : 0 ≤ x.gn) (hg1 : x.gn ≤ 1000000000) (hb : base ≤ w.heap.size) :
  Calls Tryz.prog 25 #[.pointer (some ⟨g, 0, none⟩)] w fun e w' => e = .returned (.tuple #[.agg (kS.v k), .int .i64 (M.went k ps : Nat), .bool true]) ∧ Wb w' g { x with k := k, gn := x.gn + (M.went k ps : Nat) } ∧ SMt base top w' s (M.trim k ps) ∧ Fsw base top g w w' := by
 have b0 := below_alloc_ w (.cells z25 39)
 have hlt := hW.lt
 have hz : base ≤ (w.alloc (.cells z25 39)).heap.size := Nat.le_trans hb b0.size
 have B0 := Blk.new w 39 z25
 refine step_wrap (P := fun w' => (Wb w' g { x with k := k, gn := x.gn + (M.went k ps : Nat) } ∧ SMt base top w' s (M.trim k ps) ∧ Fsw base top g (w.alloc (.cells z25 39)) w') ∧ Blk w' w.heap.size 39 z25) ((wstep_some (hW.on b0) hp ht (hS.on b0) (hT.on b0) hl hps hpl hso hn hg0 hg1 hz).mono fun e w' ⟨h1, h2, h3, h4⟩ => ?_) fun w' ⟨⟨h1, h2, h3⟩, h4⟩ => ?_
 ·have := h4.blk B0 (by decide) (fun e => by omega)
  exact ⟨h1, ⟨⟨h2, h3, h4⟩, this⟩, this⟩
 ·have ho := only_row w' w.heap.size (kS.v k)
  refine ⟨⟨h1.blk.only ho (fun e => by omega)⟩, h2.away ho (fun i cs T f hi hT e => by
   subst e
   have := hi.symm.trans h4.out
   injection this with this
   injection this with _ e
   subst e
   exact absurd hT (by decide)), ?_⟩
  exact Only.trans (S := fun i => i = g ∨ ((base ≤ i ∧ Sty w i) ∧ i < top)) ((Fsw.below_ b0).trans h3) ho fun i hi => .inr (by omega)
theorem rounds_any {g : Nat} {w : World} {x : Wc} (hW : Wb w g x) : Calls Tryz.prog 31 #[.pointer (some ⟨g, 0, none⟩)] w fun e w' => e = .returned (.int .i64 x.rn) ∧ w' = w := by
 have c := hW.r_
 go_enter Tryz.func31, Tryz.ntmps31
 go_wp2_with (go_at_call 61; refine (orIdle_any g _).mono ?_; rintro e w1 ⟨rfl, rfl⟩)
 go_ret
 exact ⟨rfl, rfl⟩
end Go.Proofs.YtjlaffgbmcpldaaGreatDoor
