/-
  The chapter's example.
-/
import Derived.Test.YtcnbdfobhablbaaChl
set_option linter.unusedVariables false
set_option linter.unusedSimpArgs false
set_option maxRecDepth 100000
namespace Go.Proofs.Ytcnbdfobhablbaa
open Go.RowKit
theorem run_bdr3 (w : World) : (bdr #[(0, .int .u8 3)]).run Try.prog w = .ok (.agg (rS.v (D.bare 3))) w := run_bdr1 w 3
theorem run_bdv2 (w : World) (r : D.Rc) : (bdv #[(0, .int .u64 2), (2, .agg (rS.v r))]).run Try.prog w = .ok (.agg (vS.v ⟨2, false, r⟩)) w := run_bdv_r w 2 r
theorem run_bdv7 (w : World) (r : D.Rc) : (bdv #[(0, .int .u64 7), (2, .agg (rS.v r))]).run Try.prog w = .ok (.agg (vS.v ⟨7, false, r⟩)) w := run_bdv_r w 7 r
theorem run_bdv5 (w : World) : (bdv #[(0, .int .u64 5), (1, .bool true)]).run Try.prog w = .ok (.agg (vS.v (D.dd 5))) w := run_bdv_d w 5
theorem run_bsv3 (w : World) (x y z : D.Vn) : (bsv 3 #[(0, .agg (vS.v x)), (1, .agg (vS.v y)), (2, .agg (vS.v z))]).run Try.prog w = .ok (.slice (some ⟨w.heap.size, 0, none⟩) 3 3) (w.alloc (.cells (vS.rcs [x, y, z]).toArray 32)) := by
  have e : (vS.rcs [x, y, z]).toArray = #[.int .u64 (x.a : Nat), .bool x.d, .int .u8 (x.r.k : Nat), .int .u8 (x.r.s : Nat), .int .u8 (x.r.u : Nat), .int .u8 (x.r.p : Nat), .int .u8 (x.r.m : Nat), .bool x.r.g, .int .u32 (x.r.v : Nat), .int .u64 (x.r.a : Nat), .string x.r.t, .int .u64 (y.a : Nat), .bool y.d, .int .u8 (y.r.k : Nat), .int .u8 (y.r.s : Nat), .int .u8 (y.r.u : Nat), .int .u8 (y.r.p : Nat), .int .u8 (y.r.m : Nat), .bool y.r.g, .int .u32 (y.r.v : Nat), .int .u64 (y.r.a : Nat), .string y.r.t, .int .u64 (z.a : Nat), .bool z.d, .int .u8 (z.r.k : Nat), .int .u8 (z.r.s : Nat), .int .u8 (z.r.u : Nat), .int .u8 (z.r.p : Nat), .int .u8 (z.r.m : Nat), .bool z.r.g, .int .u32 (z.r.v : Nat), .int .u64 (z.r.a : Nat), .string z.r.t] := rfl
  rw [e]
  simp [bsv, vv_eq, Instr.buildSlice, go_sem]
attribute [local go_sem ↓] Go.wp_at_zero Go.wp_at_succ ld_v lv_v st_v ne_v bd_v bs_v ld_w lv_w st_w ne_w bd_w bs_w ld_r ld_d lv_r lv_d st_r st_d ne_r eq_r ne_d bd_r bd_d bs_v
attribute [local go_sem] run_ldv run_lvv run_stv run_nev run_bdv_z run_bdv_d run_bdv_r run_bsv1 run_bsv0 run_ldw run_lvw run_stw run_new run_bdw_3 run_bsw1 run_bsw0 run_ldr run_ldd run_lvr run_lvd run_str run_std run_ner run_eqr run_ned run_bdr0 run_bdd0 run_bdr1 run_bdd1 run_bdd9 Shp.rd_new Shp.rd_old Shp.rd_drew Shp.rd_drewN Shp.rd_set Shp.tn_new Shp.tn_old Shp.tn_drew Shp.tn_drewN setRow_alloc vv_0 vv_1 wv_0 wv_1 run_fdv0 run_fdv1 run_stf run_bdr3 run_bdv2 run_bdv5 run_bdv7 run_bsv3 Shp.rd_extk cell_ext
def D.kl : List D.Vn := [⟨2, false, D.bare 3⟩, D.dd 5, ⟨7, false, D.bare 3⟩]
theorem D.kl_puts : D.puts [] D.kl = (D.kl, 3, 0) := by decide
theorem D.kl_trm : D.trm [3] D.kl = [⟨2, false, D.bare 3⟩, ⟨7, false, D.bare 3⟩] := by decide
theorem D.kl_wf : ∀ v ∈ D.kl, v.wf := by
  intro v hv
  simp only [D.kl, List.mem_cons, List.not_mem_nil, or_false] at hv
  rcases hv with rfl | rfl | rfl <;> exact ⟨by decide, ⟨by decide, by decide, by decide, by decide, by decide, by decide, by decide⟩⟩
set_option maxHeartbeats 8000000 in
theorem known_any (w : World) : Calls Try.prog 18 #[] w fun e w' => e = .returned (.bool true) ∧ Below w.heap.size w w' := by
  obtain ⟨base, hbase⟩ : ∃ base, w.heap.size = base := ⟨_, rfl⟩
  have hs : ∀ W : World, Below base w W → base ≤ W.heap.size := fun W h => by have := h.size; omega
  go_enter Try.func18, Try.ntmps18
  go_wp2_with fail
  have b3 : Below w.heap.size w (((w.alloc (.cells #[.slice none 0 0] 26)).alloc (.cells (rS.v (D.bare 3)) 30)).alloc (.cells (vS.rcs D.kl).toArray 32)) := ((below_alloc_ _ _).alloc (by simp) _).alloc (by simp; omega) _
  have BC : Blk (((w.alloc (.cells #[.slice none 0 0] 26)).alloc (.cells (rS.v (D.bare 3)) 30)).alloc (.cells (vS.rcs D.kl).toArray 32)) base 26 #[.slice none 0 0] := by
    subst hbase; exact ((Blk.new w _ _).alloc _).alloc _
  have RK : Shp.Row vS (((w.alloc (.cells #[.slice none 0 0] 26)).alloc (.cells (rS.v (D.bare 3)) 30)).alloc (.cells (vS.rcs D.kl).toArray 32)) (some ⟨base + 1 + 1, 0, none⟩) 3 D.kl := Shp.row_new _ 32 (base + 1 + 1) D.kl (by subst hbase; simp) _ (by simp)
  change Calls _ _ _ (((w.alloc (.cells #[.slice none 0 0] 26)).alloc (.cells (rS.v (D.bare 3)) 30)).alloc (.cells (vS.rcs D.kl).toArray 32)) _
  generalize (((w.alloc (.cells #[.slice none 0 0] 26)).alloc (.cells (rS.v (D.bare 3)) 30)).alloc (.cells (vS.rcs D.kl).toArray 32)) = W at b3 BC RK ⊢
  have hbW : base ≤ W.heap.size := by rw [← hbase]; exact b3.size
  have C0 : Cn base W base none 0 [] := ⟨BC, Ow.nil _ 11 hbW, Nat.le_refl _, D.Srt.nil, by simp, by simp⟩
  have CP := Lib.hid (put_any (d := 3) C0 RK (fun ad e _ => by injection e with e; subst e; exact ⟨by show base + 1 + 1 ≠ base; omega, fun ⟨ad, h, _⟩ => by cases h⟩) D.kl_wf (by simp))
  rw [D.kl_puts] at CP
  have HB3 := Lib.hid b3
  clear b3 BC RK C0
  refine CP.out.mono ?_
  rintro e w1 ⟨rfl, A1, c1, hC1, hO1, -⟩
  have HC1 := Lib.hid hC1
  have b1 : Below base W w1 := hO1.below hbW (fun i hi => by rcases hi with rfl | ⟨ad, h, _⟩; exact Nat.le_refl _; cases h)
  have B1 : Hid (Below base w w1) := (by have := HB3.out; rw [hbase] at this; exact this.trans b1)
  have CA := Lib.hid (at_any hC1.al 6)
  have e6 : D.seen D.kl 6 = D.dd 5 := by decide
  rw [e6] at CA
  clear hC1 hO1 b1 CP
  go_wp2_with (first
    | (go_at_call 14; (refine CA.out.mono ?_); rintro e w2 ⟨rfl, b2⟩; have B2 := Lib.hid b2; have C2 := Lib.hid (HC1.out.on b2); clear b2)
    | fail)
  have b4 : Below w2.heap.size w2 ((w2.alloc (.cells (rS.v (D.dd 5).r) 30)).alloc (.cells #[.int .u64 3] 23)) := (below_alloc_ _ _).alloc (by simp) _
  have R4 : Row ((w2.alloc (.cells (rS.v (D.dd 5).r) 30)).alloc (.cells #[.int .u64 3] 23)) (some ⟨w2.heap.size + 1, 0, none⟩) 1 (wds [3]) := by
    have h := rw_new (w2.alloc (.cells (rS.v (D.dd 5).r) 30)) 1 23 1 #[.int .u64 3] rfl
    refine ⟨rfl, fun _ => ⟨_, rfl, by simp, fun j u hu => ?_⟩⟩
    obtain ⟨ad, e, _, hc⟩ := h.cell hu
    injection e with e
    subst e
    simpa using hc
  generalize ((w2.alloc (.cells (rS.v (D.dd 5).r) 30)).alloc (.cells #[.int .u64 3] 23)) = W4 at b4 R4 ⊢
  have C4 := Lib.hid (C2.out.on b4)
  have B4 : Hid (Below base w W4) := by
    have h1 := B1.out
    have h2 := below_up h1 (hs _ h1) B2.out
    exact below_up h2 (hs _ h2) b4
  have CT4 := Lib.hid (trim_any (d := 1) C4.out [3] R4 (by decide) (hs _ B4.out))
  rw [D.kl_trm] at CT4
  clear b4 R4
  refine CT4.out.mono ?_
  rintro e w5 ⟨he, A5, c5, hC5, hO5, -⟩
  have he' : e = .returned (.int .i64 1) := he
  subst he'
  have HC5 := Lib.hid hC5
  have B5 : Hid (Below base w w5) := B4.out.trans (hO5.below (hs _ B4.out) (fun i hi => by omega))
  have hwf : ∀ v ∈ ([⟨2, false, D.bare 3⟩, ⟨7, false, D.bare 3⟩] : List D.Vn), v.wf := hC5.wf
  have CL := Lib.hid (fun (W : World) (hb : Below w5.heap.size w5 W) => len_any (HC5.out.on hb).al)
  have CNw := Lib.hid (fun (W : World) (hb : Below w5.heap.size w5 W) => newest_any (HC5.out.on hb).al hwf)
  have CLv := Lib.hid (fun (W : World) (hb : Below w5.heap.size w5 W) => live_any (HC5.out.on hb).al hwf)
  have e7 : D.nwt [⟨2, false, D.bare 3⟩, ⟨7, false, D.bare 3⟩] = 7 := rfl
  have e8 : D.liv [⟨2, false, D.bare 3⟩, ⟨7, false, D.bare 3⟩] = true := rfl
  rw [e7] at CNw
  rw [e8] at CLv
  clear hC5 hO5 he CT4 hwf
  go_wp2_with (first
    | (go_at_call 22; (refine (CL.out w5 (Below.refl _ _)).mono ?_); rintro e w6 ⟨he, b6⟩; have he' : e = .returned (.int .i64 2) := he; subst he'; have B6 := Lib.hid b6; clear b6 he)
    | (go_at_call 20; (refine (CNw.out w6 B6.out).mono ?_); rintro e w7 ⟨he, b7⟩; have he' : e = .returned (.int .u64 7) := he; subst he'; have B7 := Lib.hid (below_up B6.out B6.out.size b7); clear b7 he)
    | (go_at_call 21; (refine (CLv.out w7 B7.out).mono ?_); rintro e w8 ⟨rfl, b8⟩; have B8 := Lib.hid (below_up B7.out B7.out.size b8); clear b8))
  go_ret
  refine ⟨rfl, ?_⟩
  rw [hbase]
  exact below_up B5.out (hs _ B5.out) B8.out
end Go.Proofs.Ytcnbdfobhablbaa
