/-
  
-/
import Derived.Test.YtjlaffgbmcpldaaGreatDoorG39
import Derived.RangeFuncNested
import Derived.Test.YtjlaffgbmcpldaaGreatDoorG38
set_option linter.unusedVariables false
set_option linter.unusedSimpArgs false
set_option maxRecDepth 100000
namespace Go.Proofs.YtjlaffgbmcpldaaGreatDoor
open Go.RowKit
attribute [local go_sem ↓] Go.wp_at_zero Go.wp_at_succ ld_k lv_k st_k eq_k ne_k bd_k ld_b lv_b st_b eq_b ne_b bd_25 ld_r lv_r st_rk eq_rk ne_rk bd_r ld_p lv_p st_px bd_p Nm.ld_a Nm.ld_n Nm.st_a Nm.st_n Nm.eq_a Nm.eq_n Nm.ne_a Nm.ne_n Nm.lv_a Nm.lv_n ld_a ld_n st_a st_n eq_a eq_n ne_a ne_n lv_a lv_n ld_l lv_l st_l bd_l bd_n bs_k ld_v lv_v st_v ne_v bd_v bs_v ld_w lv_w st_w ne_w bd_w bs_w ld_rh ld_d lv_rh lv_d st_r st_d ne_rh eq_rh ne_d bd_rh bd_d ld_x lv_x st_x bd_x bs_x ld_e lv_e st_e bd_e bs_e ne_e
attribute [local go_sem] run_ldk run_lvk run_stk run_eqk run_nek run_bdk_z run_ldb run_lvb run_stb run_eqb run_neb run_ldr run_lvr run_strk run_eqrk run_nerk run_bdr_z run_ldp run_lvp run_stpx Nm.run_ld_a Nm.run_ld_n Nm.run_st_n Nm.run_eq_a Nm.run_eq_n Nm.run_ne_a Nm.run_ne_n Nm.run_lv_a Nm.run_lv_n Nm.rd_new Nm.rd_old Nm.rd_drew Nm.rd_drewN run_ld_a run_ld_n run_sw_a run_sw_n run_eq_a run_eq_n run_ne_a run_ne_n run_lv_a run_lv_n st_z ne_z eq_z rd_new rd_old rd_drew rd_drewN Shp.rd_new Shp.rd_old Shp.rd_drew Shp.rd_drewN Shp.rd_set Shp.tn_new Shp.tn_old Shp.tn_drew Shp.tn_drewN tn_new tn_old tn_drew tn_drewN rd_set setRow_alloc run_stn3 run_stt15 run_lvl run_ldl run_stl run_bdl run_bdn run_bdn0 run_bsk Shp.rd_extk cell_ext run_ldv run_lvv run_stv run_nev run_bdv_z run_bdv_d run_bdv_r run_bsv1 run_bsv0 run_ldw run_lvw run_stw run_new run_bdw_3 run_bsw1 run_bsw0 run_ldrh run_ldd run_lvrh run_lvd run_str run_std run_nerh run_eqrh run_ned run_bdr0 run_bdd0 run_bdr1 run_bdd1 run_bdd9 run_ldx run_lvx run_stx run_lde run_lve run_bde run_bse1 run_bdv_3 Shp.rd_extk cell_ext
set_option maxHeartbeats 2000000 in
theorem idle_round {g : Nat} {w : World} (hW : Wb w g zW) (v : Value) : Calls Tryz.prog 63 #[.pointer (some ⟨g, 0, none⟩), v] w fun e w' => (∃ u, e = .returned u) ∧ Only (fun i => i = g) w w' := by
 obtain ⟨hst, h1, o1⟩ := hW.putk D.zK
 obtain ⟨w1, hw1⟩ : ∃ w1, w.setCells g 2 (bys D.zK.l) = w1 := ⟨_, rfl⟩
 rw [hw1] at hst h1 o1
 have CS := Lib.hid (idle_step (show Wb w1 g zW from h1))
 have O1 := Lib.hid o1
 clear hW h1 o1 hw1
 go_enter Tryz.func63, Tryz.ntmps63
 go_wp2_with fail
 go_loopw [4, 5, 6] (fun _ _ _ wx => wx = w1) (fun _ _ _ _ => 0)
 case atStart => rfl
 case round =>
  subst hrel
  go_wp2_with (go_at_call 62; (with_reducible refine CS.out.mono ?_); rintro e w2 ⟨rfl, hW2, o2⟩; have O2 := Lib.hid o2; clear hW2 o2)
  refine bodyPost_ret (results_none rfl _ _ _) rfl ⟨⟨_, rfl⟩, ?_⟩
  exact (Only.trans (S := fun i => i = g) O1.out O2.out fun i hi => .inl hi).on (below_alloc_ _ _)
theorem bel_put {n i : Nat} {w : World} (h : n ≤ i) (o : Obj) : Below n w (w.putObj i o) := ⟨rfl, rfl, rfl, by simp [World.putObj], fun k hk => World.putObj_heap_other (by omega)⟩
theorem range_none {F : Fence} {n : Nat} {P : Program} {g : Operand} {ps : Array Tmp} {assign body : Code} {Q : Exit → Act → World → Prop} {a : Act} {w : World} (hro : F.round = none) (h1 : 1 ≤ n) {gf : Nat} {bb lb : Array Value}
  (hg : a.eval g = .func (.func gf) bb lb) (hFg : F.fn gf) (eg : ∀ args w, (callFunc gf args).run P w = .ok (.enter gf args) w) {R : World → Prop}
  (hcall : ∀ (rec : Loop), CallsIn F (n - 1) P gf (bb ++ #[.func (.yield (w.heap.size + 1)) #[] #[]] ++ lb) ((w.alloc (.deferred (some []))).alloc (.loop rec)) fun e W => (∃ v, e = .returned v) ∧ R W ∧ W.heap[w.heap.size + 1]? = some (.loop rec) ∧ W.heap[w.heap.size]? = some (.deferred (some [])))
  (hdone : ∀ (o : Obj) (W : World), R W → W.heap[w.heap.size]? = some (.deferred (some [])) → (W.putObj (w.heap.size + 1) o).heap[w.heap.size]? = some (.deferred (some [])) → Q .normal { a with defers := { target := .collected w.heap.size, args := #[] } :: a.defers } (W.putObj (w.heap.size + 1) o)) :
  (Code.rangeFunc g ps assign body).wpIn F n P Q a w := by
 refine wpIn_rangeFunc ?_
 intro fn hfn
 rw [hro]
 obtain ⟨rec, hrec⟩ : ∃ rec : Loop, rec = { state := .ready, pending := none, fn, tmps := a.tmps, params := ps, assign, body, defers := w.heap.size } := ⟨_, rfl⟩
 have hC := hcall rec
 obtain ⟨W1, hW1⟩ : ∃ W1, (w.alloc (.deferred (some []))).alloc (.loop rec) = W1 := ⟨_, rfl⟩
 rw [hW1] at hC
 refine ⟨w.heap.size + 1, [{ target := .collected w.heap.size, args := #[] }], W1, { target := .fn (.func gf) lb, args := bb ++ #[.func (.yield (w.heap.size + 1)) #[] #[]] }, W1, gf, bb ++ #[.func (.yield (w.heap.size + 1)) #[] #[]] ++ lb, W1, ?_, ?_, ?_, ?_, fun _ => h1, ?_⟩
 ·rw [← hW1, hrec]; exact run_enterLoop_outer _ _ _ _ _
 ·simp only [resolve, hg]
  simp [go_sem]
 ·intro f' hf'
  simp [Target.leads] at hf'
  subst hf'; exact hFg
 ·simp [invoke, go_sem, eg]
 ·refine hC.mono ?_
  rintro e W ⟨⟨v, rfl⟩, hR, hl, hd⟩
  have hp : rec.pending = none := by rw [hrec]
  have he := run_endLoop (P := P) hl (by rw [hrec]; simp)
  rw [hp] at he
  refine ⟨none, _, he, ?_⟩
  exact hdone _ W hR hd ((World.putObj_heap_other (by omega)).trans hd)
set_option maxHeartbeats 4000000 in
theorem nil_round (w : World) : Calls Tryz.prog 29 #[.pointer none] w fun e w' => e = .returned (.int .i64 0) ∧ Below w.heap.size w w' := by
 have CO := Lib.hid (fun W => orIdle_nil W)
 refine (callsIn_wide (n := 10)).1 ?_
 refine callsIn_of_wp_marks Tryz.func29 rfl trivial ?_ rfl
 simp only [Tryz.ntmps29, List.size_toArray, List.length_cons, List.length_nil, Nat.reduceAdd, Nat.reduceSub, Array.replicate_succ, Array.replicate_zero, List.push_toArray, List.append_toArray, List.nil_append, List.cons_append]
 gi_wp2
 have hz0 : (w.alloc (.cells #[.int .i64 0] 3)).heap.size = w.heap.size + 1 := by simp
 have bA := below_alloc_ w (.cells #[.int .i64 0] 3)
 have BA := Blk.new w 3 #[.int .i64 0]
 obtain ⟨wA, hwA⟩ : ∃ wA, w.alloc (.cells #[.int .i64 0] 3) = wA := ⟨_, rfl⟩
 rw [hwA] at hz0 bA BA ⊢
 clear hwA
 refine ⟨trivial, ?_⟩
 have CA := CO.out wA
 obtain ⟨gi, hgi⟩ : ∃ gi, wA.heap.size = gi := ⟨_, rfl⟩
 rw [hgi] at CA
 refine (callsIn_wide.2 CA).mono ?_
 rintro e w1 ⟨rfl, hW1, b1⟩
 rw [← hgi] at b1
 have HGI := Lib.hid hgi
 have HZ0 := Lib.hid hz0
 clear hgi hz0 CA CO
 have hz1 : gi ≤ w1.heap.size := by rw [← HGI.out]; exact b1.size
 have hWl := hW1.lt
 have BB := Lib.hid (BA.on b1)
 have HB1 := Lib.hid b1
 have HW1 := Lib.hid hW1
 have hg0 : w.heap.size + 1 = gi := by rw [← HGI.out]; exact HZ0.out.symm
 have HG0 := Lib.hid hg0
 clear hW1 b1 hg0 BA
 gi_wp2
 refine range_none rfl (by decide) (gf := 63) (bb := #[.pointer (some ⟨gi, 0, none⟩)]) (lb := #[]) rfl trivial (enters_of Tryz.func63 (by kernel_rfl) rfl) (R := fun W => Only (fun i => i = gi) w1 W) (fun rec => ?_) (fun o W hR hd hd2 => ?_)
 ·have b2 : Below w1.heap.size w1 ((w1.alloc (.deferred (some []))).alloc (.loop rec)) := (below_alloc_ _ _).alloc (by simp) _
  have hl : ((w1.alloc (.deferred (some []))).alloc (.loop rec)).heap[w1.heap.size + 1]? = some (.loop rec) := by
   have := World.alloc_heap_new (w1.alloc (.deferred (some []))) (.loop rec)
   rwa [World.size_alloc] at this
  have hk : ((w1.alloc (.deferred (some []))).alloc (.loop rec)).heap[w1.heap.size]? = some (.deferred (some [])) := (Below.heap_alloc _ _ _ (by simp)).trans (World.alloc_heap_new w1 _)
  obtain ⟨W1, hW1'⟩ : ∃ W1, (w1.alloc (.deferred (some []))).alloc (.loop rec) = W1 := ⟨_, rfl⟩
  rw [hW1'] at b2 hl hk ⊢
  have hW2 := HW1.out.on b2
  have hC := callsIn_wide (n := 9) |>.2 (idle_round hW2 (.func (.yield (w1.heap.size + 1)) #[] #[]))
  refine hC.mono ?_
  rintro e W ⟨hu, o2⟩
  have hsz := (Array.getElem?_eq_some_iff.1 hl).1
  exact ⟨hu, Only.trans (S := fun i => i = gi) (only_below b2) o2 fun i hi => .inl hi, (o2.block _ hsz (fun e => by omega)).trans hl, (o2.block _ (by omega) (fun e => by omega)).trans hk⟩
 ·have hg := HG0.out
  have c3 : (W.putObj (w1.heap.size + 1) o).cell? ⟨w.heap.size, 0, none⟩ = some (.int .i64 0) := by
   have h1 : W.heap[w.heap.size]? = w1.heap[w.heap.size]? := hR.block _ (by omega) (fun e => by omega)
   have h2 : (W.putObj (w1.heap.size + 1) o).heap[w.heap.size]? = W.heap[w.heap.size]? := World.putObj_heap_other (by omega)
   have hB : Blk (W.putObj (w1.heap.size + 1) o) w.heap.size 3 #[.int .i64 0] := ⟨h2.trans (h1.trans BB.out.out)⟩
   exact hB.cell
  have HR := Lib.hid hR
  have HB1' := HB1
  have bel : Hid (∀ o', Below w.heap.size w ((W.putObj (w1.heap.size + 1) o).putObj w1.heap.size o')) := Lib.hid fun o' => by
   have p1 : Below w.heap.size w w1 := by
    have := HB1.out
    exact bA.trans (this.mono (by have := HZ0.out; omega))
   have p2 : Below w.heap.size w W := p1.trans (HR.out.below (B := w.heap.size) (by omega) fun i hi => by omega)
   exact (p2.trans (bel_put (by omega) _)).trans (bel_put (by omega) _)
  clear hR hg
  obtain ⟨W2, hW2⟩ : ∃ W2, W.putObj (w1.heap.size + 1) o = W2 := ⟨_, rfl⟩
  rw [hW2] at c3 hd2 bel ⊢
  clear hW2 hd
  gi_wp2
  refine ⟨by simp, .inl ⟨_, _, rfl, run_takeDeferred hd2, ?_⟩⟩
  exact ⟨_, results_tmp rfl _ _ _, rfl, bel.out _⟩
theorem law_nil15 (n : Int) (w : World) : Calls Tryz.prog 7 #[.int .i64 n] w fun e w' => e = .returned (.bool true) ∧ Below w.heap.size w w' := by
 obtain ⟨tz, hbdT, htz⟩ := tz_ex
 clear htz
 have zz : kS.sm D.zK D.zK = true := by simp [Shp.sm]
 have CN : Hid (∀ p t W, p = none ∨ t = none → Calls Tryz.prog 14 #[.pointer p, .pointer t] W fun e w' => e = .returned (.tuple #[.pointer none, .int .i64 1]) ∧ w' = W) := Lib.hid fun p t W h => wnew_no p t W h
 have CS := Lib.hid (fun W => snew_any (W.heap.size) W (Nat.le_refl _))
 have CT := Lib.hid (fun W => nil_step W)
 have CK := Lib.hid (fun W => known15 kr_all W)
 have C1 := Lib.hid (fun W => nil_steps n W)
 have C2 := Lib.hid (fun W => nil_round W)
 have C3 := Lib.hid (fun W => nil_stands W)
 have C4 := Lib.hid (fun W => nil_rounds W)
 have C5 := Lib.hid (fun W => nil_gone W)
 have b0 := below_alloc_ w (.cells tz 51)
 go_enter Tryz.func7, Tryz.ntmps7
 go_wp2_with fail
 go_at_call 14
 refine (CN.out _ _ _ (.inl rfl)).mono ?_
 rintro e w1 ⟨rfl, rfl⟩
 obtain ⟨w1, hw1⟩ : ∃ w1, w.alloc (.cells tz 51) = w1 := ⟨_, rfl⟩
 rw [hw1] at b0 ⊢
 clear hw1
 go_wp2_with fail
 go_at_call 13
 refine (CS.out _).mono ?_
 rintro e w2 ⟨rfl, -, b2⟩
 have b2 := below_up b0 b0.size b2
 go_wp2_with fail
 go_at_call 14
 refine (CN.out _ _ _ (.inr rfl)).mono ?_
 rintro e w3 ⟨rfl, rfl⟩
 go_wp2_with fail
 go_at_call 25
 refine (CT.out _).mono ?_
 rintro e w4 ⟨rfl, b4⟩
 have b4 := below_up b2 b2.size b4
 have b5 := below_up b4 b4.size (below_alloc_ w4 (.cells (kS.v D.zK) 39))
 have Z5 := Blk.new w4 39 (kS.v D.zK)
 obtain ⟨w5, hw5⟩ : ∃ w5, w4.alloc (.cells (kS.v D.zK) 39) = w5 := ⟨_, rfl⟩
 obtain ⟨gz, hgz⟩ : ∃ gz, w4.heap.size = gz := ⟨_, rfl⟩
 rw [hw5] at b5 Z5
 rw [hgz] at Z5
 have HB5 := Lib.hid b5
 have HZ5 := Lib.hid Z5
 clear b5 Z5 b4 b2 b0
 go_wp2_with fail
 try rw [hw5]
 try rw [hgz]
 clear hw5 hgz
 go_at_call 34
 refine (CK.out _).mono ?_
 rintro e w6 ⟨rfl, b6⟩
 have z6_ := Shp.rd_blk (HZ5.out.on b6)
 have HB6 := Lib.hid (below_up HB5.out HB5.out.size b6)
 clear b6
 go_wp2_with (first
  | (go_at_call 27; (with_reducible refine (C1.out _).mono ?_); rintro e w7 ⟨rfl, b7⟩; have HB7 := Lib.hid (below_up HB6.out HB6.out.size b7); clear b7)
  | (go_at_call 29; (with_reducible refine (C2.out _).mono ?_); rintro e w8 ⟨rfl, b8⟩; have HB8 := Lib.hid (below_up HB7.out HB7.out.size b8); clear b8)
  | (go_at_call 30; (with_reducible refine (C3.out _).mono ?_); rintro e w9 ⟨rfl, b9⟩; have HB9 := Lib.hid (below_up HB8.out HB8.out.size b9); clear b9)
  | (go_at_call 31; (with_reducible refine (C4.out _).mono ?_); rintro e wA ⟨rfl, bA⟩; have HBA := Lib.hid (below_up HB9.out HB9.out.size bA); clear bA)
  | (go_at_call 32; (with_reducible refine (C5.out _).mono ?_); rintro e wB ⟨rfl, bB⟩; have HBB := Lib.hid (below_up HBA.out HBA.out.size bB); clear bB))
 go_ret
 exact ⟨rfl, HBB.out⟩
end Go.Proofs.YtjlaffgbmcpldaaGreatDoor
