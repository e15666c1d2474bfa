/-
  Two hundred keys are live, and no more; one that dies makes room (StoreFull).
  The library's texts in this program are those that the library's contracts were proved of.
  What the library's calls answer with / bytes and with numbers: pieces, pieces joined, digits, the number that a text spells, a place in a text.
-/
import Derived.Test.YteiikacgcfidmaaGreatDoorG38
import Derived.Test.YteiikacgcfidmaaGreatDoorG32
import Derived.Shelf.Strings.Builder1
import Derived.Shelf.Strings.Builder2
import Derived.Shelf.Strings.OnBuilder
import Derived.Shelf.Small.Utf8
import Derived.Shelf.Small.Bits
import Derived.Shelf.Utf8.RuneCount
import Derived.Shelf.Strconv.Atoi
import Derived.Shelf.Strconv.Itoa0
import Derived.Shelf.Strconv.Itoa1
import Derived.Shelf.LaysM
import Derived.Shelf.Strconv.Itoa2
import Derived.Shelf.Strconv.Itoa3
import Derived.Shelf.Strconv.AtoiErrFast
import Derived.Shelf.Strconv.ParseIntEmpty
import Derived.Shelf.Strconv.AtoiFail
import Derived.Shelf.Strconv.Clone
import Derived.Shelf.Strconv.SyntaxError
import Derived.Shelf.LaysC
import Derived.Shelf.Strconv.ToError
import Derived.Shelf.Strconv.Lower
import Derived.Shelf.Strconv.ParseUint10
import Derived.Shelf.Strconv.ParseUint10Empty
import Derived.Shelf.Strconv.ParseUint10Any
import Derived.Shelf.Strconv.ParseInt10
import Derived.Shelf.Strconv.AtoiLong
import Derived.Shelf.Strconv.AtoiInnerAll
import Derived.Shelf.Strconv.RangeError
import Derived.Shelf.Strconv.ToErrorRange
import Derived.Shelf.Strconv.AtoiAll
import Derived.Shelf.Strings.Search1
import Derived.Shelf.Strings.Search2
import Derived.Shelf.Strings.Search3
import Derived.Shelf.Strings.Count
import Derived.Shelf.Strings.Shaped
import Derived.Shelf.Strings.Split
import Derived.Shelf.Strings.SplitShaped
import Derived.Shelf.Unicode.Latin
import Derived.Shelf.Unicode.Decode
import Derived.Shelf.Strings.RuneCount
import Derived.Shelf.Strings.Explode
import Derived.Shelf.Unicode.DecodeSlow
import Derived.Shelf.Unicode.DecodeAny
import Derived.Shelf.Unicode.CaseLookup
import Derived.Shelf.Unicode.CaseConvert
import Derived.Shelf.Unicode.CaseTo
import Derived.Shelf.Unicode.CaseLaid
import Derived.Shelf.Bytes.SlIndexSmall
import Derived.Shelf.Bytes.SlIndexAt
import Derived.Shelf.Bytes.SlSearch0
import Derived.Shelf.Bytes.SlSearch1
import Derived.Shelf.Bytes.SlSearch2
import Derived.Shelf.Bytes.SlIndexWhole
import Derived.Shelf.Bytes.SlCut
import Derived.Shelf.Bytes.Small
import Derived.Shelf.Bytes.IndexByte
import Derived.Test.YteiikacgcfidmaaGreatDoorProg
import Derived.Test.YteiikacgcfidmaaGreatDoorG20
import Derived.Test.YteiikacgcfidmaaGreatDoorG04
import Derived.Lib.AtoiOr
import Derived.Lib.AtoiErrMem
set_option linter.unusedVariables false
set_option linter.unusedSimpArgs false
set_option maxRecDepth 100000
namespace Go.Proofs.YteiikacgcfidmaaGreatDoor
open Go.RowKit
theorem run_bdr_rev (w : World) : (bdrh #[(0, .int .u8 5), (6, .int .u32 1)]).run Tryz.prog w = .ok (.agg (rSh.v D.frc)) w := by
  simp [bdrh, rv_eq, D.frc, Instr.build, go_sem]
theorem m220 (i : Int) : ∃ n : Nat, n < 220 ∧ IntKind.i64.wrap ((IntKind.u64.wrap i).tmod 220) = (n : Int) ∧ (IntKind.u64.wrap i).tmod 220 = (n : Int) := by
  rw [IntKind.wrap_u64, Int.tmod_eq_emod_of_nonneg (by omega)]
  refine ⟨(i % 18446744073709551616 % 220).toNat, by omega, ?_, by omega⟩
  rw [IntKind.wrap_i64]
  omega
theorem row_lit1 (w : World) (n : Nat) (z : Int) (b : Nat) (hz : z = b) (hn : n = w.heap.size) : Row (w.alloc (.cells #[.int .u8 z] 5)) (some ⟨n, 0, none⟩) 1 (bys [b]) := by
  subst hz hn
  exact ⟨rfl, fun _ => ⟨_, rfl, by simp, World.news_of_block (heap_alloc_new w _)⟩⟩
theorem row_lit2 (w : World) (n : Nat) (z y : Int) (b c : Nat) (hz : z = b) (hy : y = c) (hn : n = w.heap.size) : Row (w.alloc (.cells #[.int .u8 z, .int .u8 y] 5)) (some ⟨n, 0, none⟩) 2 (bys [b, c]) := by
  subst hz hy hn
  exact ⟨rfl, fun _ => ⟨_, rfl, by simp, World.news_of_block (heap_alloc_new w _)⟩⟩
theorem ftx_cat : ∀ i < 220, (⟨#[115, 47]⟩ ++ D.sb [48 + i % 4] ++ ⟨#[47, 48, 47, 97]⟩ ++ D.sb [97 + i / 4 % 10, 97 + i / 40] : ByteArray) = D.ftx i := by decide +kernel
theorem SM.grown {base s : Nat} {w w' : World} {M : D.Sm} {row : Option Nat} (h : SM base w s M) (hg : w.grownBy w' row) (hr : ∀ i, row = some i → ¬ Sty w i) : SM base w' s M := by
  obtain ⟨g, o, q, hC⟩ := h
  have k : Only (fun i => row = some i) w w' := ⟨hg.os, hg.tape, hg.output, hg.size, fun i hi hn => hg.block i hi fun e => hn e.symm⟩
  have nb : ∀ {i : Nat} {T : TypeId} {cs : Array Value}, Blk w i T cs → T ∈ sts → ¬ row = some i := fun hB hT e => hr _ e ⟨_, _, _, hB.out, hT⟩
  refine ⟨g, o, q, ⟨⟨hC.blk.only k (nb hC.blk (by decide)), hC.tc.kept fun i hi => ?_, hC.ls, fun y hy => ?_, hC.sk.ap, hC.sk.bs, hC.sk.bg⟩, hC.wf⟩⟩
  · obtain ⟨cs, T, hB, hT⟩ := hC.tc.ty i hi
    exact k.block i hB.lt (nb hB (by rcases hT with rfl | rfl <;> decide))
  · have hc := hC.cn y hy
    refine hc.only k (nb hc.blk (by decide)) fun i hi e => ?_
    obtain ⟨cs, e2⟩ := ow_block hc.own hi
    exact hr i e ⟨_, _, _, e2, by decide⟩
theorem ow_not_sty {T : TypeId} {sz b n c : Nat} {w : World} {A : Option Addr} {xs : List Value} (h : Ow T sz b w A n c xs) (hT : T ∉ sts) : ∀ i, (Value.slice A n c).ownBlock = some i → ¬ Sty w i := fun i hi ⟨cs', T', f, h2, h3⟩ => by
  obtain ⟨cs, e⟩ := ow_block h (own_at hi)
  have := e.symm.trans h2
  injection this with this
  injection this with _ e
  subst e
  exact hT h3
theorem bsx2_list (w : World) (d d2 : Bool) (r r2 : D.Rc) : ∀ l l2 : List Value, l.length = 25 → l2.length = 25 → (bsx 2 #[(0, .agg (l ++ .bool d :: rcellsh r).toArray), (1, .agg (l2 ++ .bool d2 :: rcellsh r2).toArray)]).run Tryz.prog w = .ok (.slice (some ⟨w.heap.size, 0, none⟩) 2 2) (w.alloc (.cells ((l ++ .bool d :: rcellsh r) ++ (l2 ++ .bool d2 :: rcellsh r2)).toArray 65))
  | [a0, a1, a2, a3, a4, a5, a6, a7, a8, a9, a10, a11, a12, a13, a14, a15, a16, a17, a18, a19, a20, a21, a22, a23, a24], [b0, b1, b2, b3, b4, b5, b6, b7, b8, b9, b10, b11, b12, b13, b14, b15, b16, b17, b18, b19, b20, b21, b22, b23, b24], _, _ => by
    simp [bsx, rcellsh, Instr.buildSlice, go_sem]
def twos (x y : D.Wt) : Array Value := (xS.cs x ++ xS.cs y).toArray
theorem run_bsx2 (w : World) (x y : D.Wt) : (bsx 2 #[(0, .agg (xS.v x)), (1, .agg (xS.v y))]).run Tryz.prog w = .ok (.slice (some ⟨w.heap.size, 0, none⟩) 2 2) (w.alloc (.cells (twos x y) 65)) := bsx2_list w x.d y.d x.r y.r (bys x.k.l) (bys y.k.l) (by rw [bys_len, x.k.len]) (by rw [bys_len, y.k.len])
theorem xr_two (w : World) (x y : D.Wt) : XR (w.alloc (.cells (twos x y) 65)) (some ⟨w.heap.size, 0, none⟩) 2 [x, y] :=
  ⟨Shp.row_new (S := xS) w 65 w.heap.size [x, y] rfl (twos x y) (by simp [Shp.rcs, twos]), fun ad ha _ ⟨cs, T, f, h2, h3⟩ => by
    injection ha with ha
    subst ha
    exact ty_ne (Blk.new w 65 (twos x y)) h2 (fun e => by subst e; revert h3; decide) rfl⟩
attribute [local go_sem ↓] Go.wp_at_zero Go.wp_at_succ ld_k lv_k st_k eq_k ne_k bd_k ld_b lv_b st_b eq_b ne_b bd_25 ld_r lv_r st_rk eq_rk ne_rk bd_r ld_p lv_p st_px bd_p Nm.ld_a Nm.ld_n Nm.st_a Nm.st_n Nm.eq_a Nm.eq_n Nm.ne_a Nm.ne_n Nm.lv_a Nm.lv_n ld_a ld_n st_a st_n eq_a eq_n ne_a ne_n lv_a lv_n ld_l lv_l st_l bd_l bd_n bs_k ld_v lv_v st_v ne_v bd_v bs_v ld_rh ld_d lv_rh lv_d st_r st_d ne_rh eq_rh ne_d bd_rh bd_d ld_x lv_x st_x bd_x bs_x ld_e lv_e st_e bd_e bs_e ne_e
attribute [local go_sem] run_ldk run_lvk run_stk run_eqk run_nek run_bdk_z run_ldb run_lvb run_stb run_eqb run_neb run_ldr run_lvr run_strk run_eqrk run_nerk run_bdr_z run_ldp run_lvp run_stpx Nm.run_ld_a Nm.run_ld_n Nm.run_st_n Nm.run_eq_a Nm.run_eq_n Nm.run_ne_a Nm.run_ne_n Nm.run_lv_a Nm.run_lv_n Nm.rd_new Nm.rd_old Nm.rd_drew Nm.rd_drewN run_ld_a run_ld_n run_sw_a run_sw_n run_eq_a run_eq_n run_ne_a run_ne_n run_lv_a run_lv_n st_z ne_z eq_z rd_new rd_old rd_drew rd_drewN Shp.rd_new Shp.rd_old Shp.rd_drew Shp.rd_drewN Shp.rd_set Shp.tn_new Shp.tn_old Shp.tn_drew Shp.tn_drewN tn_new tn_old tn_drew tn_drewN rd_set setRow_alloc run_stn3 run_stt15 run_lvl run_ldl run_stl run_bdl run_bdn run_bdn0 run_bsk Shp.rd_extk cell_ext run_ldv run_lvv run_stv run_nev run_bdv_z run_bdv_d run_bdv_r run_bsv1 run_bsv0 run_ldrh run_ldd run_lvrh run_lvd run_str run_std run_nerh run_eqrh run_ned run_bdr0 run_bdd0 run_bdr1 run_bdd1 run_bdd9 run_ldx run_lvx run_stx run_lde run_lve run_bde run_bse1 run_bdv_3 Shp.rd_extk cell_ext
attribute [local go_sem] run_bsx1 run_bsx2 run_bdr_rev run_bdx_r run_bdx_d
set_option maxHeartbeats 8000000 in
theorem law_full (hR : KRt) (n0 : Int) {w : World} (hK : ∀ W, Below w.heap.size w W → ∀ i, i < 220 → Calls Tryz.prog 22 #[.string (D.ftx i)] W fun e w' => e = .returned (.tuple #[.agg (kS.v (D.fky i)), .int .i64 0]) ∧ Below W.heap.size W w') : Calls Tryz.prog 6 #[.int .i64 n0] w fun e w' => e = .returned (.bool true) ∧ Below w.heap.size w w' := by
  have HK := Lib.hid hK
  have CN := Lib.hid (snew_any w.heap.size w (Nat.le_refl _))
  obtain ⟨n, hn, n1, n2⟩ := m220 n0
  clear hK
  go_enter Tryz.func6, Tryz.ntmps6
  go_wp2_with (go_at_call 14; (with_reducible refine CN.out.mono ?_); rintro e w1 ⟨rfl, hS1, b1⟩; have HS1 := Lib.hid hS1; have B1 := Lib.hid b1; clear hS1 b1)
  obtain ⟨s, hs⟩ : ∃ s, w.heap.size + 1 = s := ⟨_, rfl⟩
  try rw [hs]
  rw [hs] at HS1
  clear hs CN
  go_loopw [4, 5] (fun sl i wr => ∃ (j : Nat) (A : Option Addr) (d : Nat), j ≤ n ∧ i = .int .i64 j ∧ sl = .slice A j d ∧ Hid (SM w.heap.size wr s (D.fm j)) ∧ Hid (Ow 39 25 w.heap.size wr A j d (kS.rcs ((List.range j).map D.fky))) ∧ Hid (Below w.heap.size w wr)) (fun _ i _ => n - (intOf i).toNat)
  case atStart => exact ⟨0, none, 0, Nat.zero_le _, rfl, rfl, HS1, Lib.hid (Ow.nil _ 25 B1.out.size), B1⟩
  case round =>
    obtain ⟨j, A, d, hj, rfl, rfl, HS, HO, HB⟩ := hrel
    by_cases hlt : j < n
    · have j1 : (j : Int) < (n : Int) := by omega
      have j0 : (0 : Int) ≤ (j : Int) := by omega
      have h1 := str_run (wr.alloc (.cells #[.int .u8 (48 + (j : Int) % 4)] 5)) (some ⟨wr.heap.size, 0, none⟩) 1 1 [48 + j % 4] (row_lit1 wr _ _ _ (by omega) rfl) (by simp; omega)
      have h2 := str_run ((wr.alloc (.cells #[.int .u8 (48 + (j : Int) % 4)] 5)).alloc (.cells #[.int .u8 (97 + (j : Int) / 4 % 10), .int .u8 (97 + (j : Int) / 40)] 5)) (some ⟨wr.heap.size + 1, 0, none⟩) 2 2 [97 + j / 4 % 10, 97 + j / 40] (row_lit2 _ _ _ _ _ _ (by omega) (by omega) (by simp)) (by intro b hb; simp at hb; omega)
      have ht := ftx_cat j (by omega)
      have b0 : Below wr.heap.size wr ((wr.alloc (.cells #[.int .u8 (48 + (j : Int) % 4)] 5)).alloc (.cells #[.int .u8 (97 + (j : Int) / 4 % 10), .int .u8 (97 + (j : Int) / 40)] 5)) := (below_alloc_ _ _).alloc (by simp) _
      have hfx : (⟨D.fky j, false, D.frc⟩ : D.Wt) = D.fx j := rfl
      have hful := D.fm_ful j (by omega)
      have hfl : (D.fm j).last < 990 := by rw [hful.last]; omega
      have hfk : (D.fm j).ks.length ≤ 900 := by have := hful.ks; omega
      go_wp2_with fail
      obtain ⟨w0, hw0⟩ : ∃ w0, (wr.alloc (.cells #[.int .u8 (48 + (j : Int) % 4)] 5)).alloc (.cells #[.int .u8 (97 + (j : Int) / 4 % 10), .int .u8 (97 + (j : Int) / 40)] 5) = w0 := ⟨_, rfl⟩
      rw [hw0] at b0
      try rw [hw0]
      clear hw0 h1 h2
      have HB0 := Lib.hid (below_up HB.out HB.out.size b0)
      have HS0 := Lib.hid (HS.out.on b0)
      have HO0 := Lib.hid (HO.out.on b0)
      clear b0
      go_wp2_with (go_at_call 22; (with_reducible refine (HK.out _ HB0.out j (by omega)).mono ?_); rintro e w1 ⟨rfl, b1⟩; have HB1 := Lib.hid (below_up HB0.out HB0.out.size b1); have HS1_ := Lib.hid (HS0.out.on b1); have HO1 := Lib.hid (HO0.out.on b1); clear b1)
      have K2 := Lib.hid (Blk.new w1 39 (kS.v (D.fky j)))
      have HS2 := Lib.hid (HS1_.out.on (below_alloc_ w1 (.cells (kS.v (D.fky j)) 39)))
      have HO2 := Lib.hid (HO1.out.on (below_alloc_ w1 (.cells (kS.v (D.fky j)) 39)))
      have HB2 := Lib.hid (below_up HB1.out HB1.out.size (below_alloc_ w1 (.cells (kS.v (D.fky j)) 39)))
      have C1 := pub_one hR HS2.out hfl hfk (D.fx j) (D.fx_wf j) (n := w1.heap.size + 1) (by simp)
      obtain ⟨gk, hgk⟩ : ∃ gk, w1.heap.size = gk := ⟨_, rfl⟩
      obtain ⟨w2, hw2⟩ : ∃ w2, w1.alloc (.cells (kS.v (D.fky j)) 39) = w2 := ⟨_, rfl⟩
      rw [hgk] at K2 C1
      rw [hw2] at K2 HS2 HO2 HB2 C1
      try rw [hgk]
      try rw [hw2]
      clear hgk hw2 hfl hfk
      by_cases h200 : j < 200
      · have hf2 : D.Ful (D.fm j) j := by rw [Nat.min_eq_left (by omega)] at hful; exact hful
        rw [hf2.ok h200] at C1
        have jj : (j : Int) < 200 := by omega
        have C1 := Lib.hid C1
        clear hf2 hful h200
        refine C1.out.mono ?_
        rintro e w3 ⟨rfl, hS3, f3⟩
        have HS3 := Lib.hid (show SM w.heap.size w3 s (D.fm (j + 1)) from hS3)
        have HB3 := Lib.hid (Frm.bel f3 HB2.out HB2.out.size)
        have HO3 := Lib.hid (Frm.ow f3 HO2.out (by decide))
        have K3 := Lib.hid (Frm.blk f3 K2.out (by decide))
        have k3_ := Shp.rd_blk (S := kS) K3.out
        clear hS3 f3 C1
        go_wp2_with (at_builtin; refine gapp _ key_under key_info rfl (by decide) (by decide) rfl (.tmp 70) (.tmp 72) rfl rfl (HO3.out.alloc (.cells (kS.v (D.fky j)) 39)) rfl (rw_shp kS _ (D.fky j) 39 _ (by simp)) (kS.one (D.fky j)) (by omega) ?_; intro A6 c6 w4 ho4 hg4 hat4)
        have HS4 := Lib.hid (SM.grown (HS3.out.on (below_alloc_ w3 (.cells (kS.v (D.fky j)) 39))) hg4 (ow_not_sty (HO3.out.alloc (.cells (kS.v (D.fky j)) 39)) (by decide)))
        have HB4 := Lib.hid ((HB3.out.alloc HB3.out.size _).grown hg4 (by simp; have := HB3.out.size; omega) fun k hk => (HO3.out.lt k hk).1)
        have HO4 := Lib.hid ho4
        clear ho4 hg4 hat4
        go_roundw
        case rel => exact ⟨j + 1, A6, c6, by omega, by go_num, rfl, HS4, Lib.hid (by rw [List.range_succ, List.map_append, List.map_singleton, rcs_snoc]; exact HO4.out), HB4⟩
        case measure => simp [intOf]; omega
      · have hf2 : D.Ful (D.fm j) 200 := by rw [Nat.min_eq_right (by omega)] at hful; exact hful
        rw [hf2.full (by omega) (by omega)] at C1
        have jj : ¬ ((j : Int) < 200) := by omega
        have C1 := Lib.hid C1
        clear hf2 hful h200
        refine C1.out.mono ?_
        rintro e w3 ⟨rfl, hS3, f3⟩
        have HS3 := Lib.hid (show SM w.heap.size w3 s (D.fm (j + 1)) from hS3)
        have HB3 := Lib.hid (Frm.bel f3 HB2.out HB2.out.size)
        have HO3 := Lib.hid (Frm.ow f3 HO2.out (by decide))
        have K3 := Lib.hid (Frm.blk f3 K2.out (by decide))
        have k3_ := Shp.rd_blk (S := kS) K3.out
        clear hS3 f3 C1
        go_wp2_with (at_builtin; refine gapp _ key_under key_info rfl (by decide) (by decide) rfl (.tmp 70) (.tmp 72) rfl rfl (HO3.out.alloc (.cells (kS.v (D.fky j)) 39)) rfl (rw_shp kS _ (D.fky j) 39 _ (by simp)) (kS.one (D.fky j)) (by omega) ?_; intro A6 c6 w4 ho4 hg4 hat4)
        have HS4 := Lib.hid (SM.grown (HS3.out.on (below_alloc_ w3 (.cells (kS.v (D.fky j)) 39))) hg4 (ow_not_sty (HO3.out.alloc (.cells (kS.v (D.fky j)) 39)) (by decide)))
        have HB4 := Lib.hid ((HB3.out.alloc HB3.out.size _).grown hg4 (by simp; have := HB3.out.size; omega) fun k hk => (HO3.out.lt k hk).1)
        have HO4 := Lib.hid ho4
        clear ho4 hg4 hat4
        go_roundw
        case rel => exact ⟨j + 1, A6, c6, by omega, by go_num, rfl, HS4, Lib.hid (by rw [List.range_succ, List.map_append, List.map_singleton, rcs_snoc]; exact HO4.out), HB4⟩
        case measure => simp [intOf]; omega
    · have j1 : ¬ ((j : Int) < (n : Int)) := by omega
      have hjn : j = n := by omega
      subst hjn
      have hful := D.fm_ful j (by omega)
      by_cases h2 : j ≤ 200
      · have hf2 : D.Ful (D.fm j) j := by rw [Nat.min_eq_left (by omega)] at hful; exact hful
        have j2 : (j : Int) ≤ 200 := by omega
        have CL : Hid (∀ W, SM w.heap.size W s (D.fm j) → Calls Tryz.prog 19 #[.pointer (some ⟨s, 0, none⟩)] W fun e w' => e = .returned (.int .i64 (j : Nat)) ∧ Below W.heap.size W w') := Lib.hid fun W h => by
          have := slive_any (SO.of h)
          rwa [hf2.live] at this
        clear hful hf2 h2
        go_wp2_with (first
          | (go_at_call 10; refine (known_any kr_all _).mono ?_; rintro e w7 ⟨rfl, b7⟩; have D7 := Lib.hid b7; clear b7)
          | (go_at_call 19; (with_reducible refine (CL.out _ (HS.out.on D7.out)).mono ?_); rintro e w8 ⟨rfl, b8⟩; have D8 := Lib.hid (below_up D7.out D7.out.size b8); clear b8))
        go_ret
        exact ⟨rfl, below_up HB.out HB.out.size D8.out⟩
      · have hf2 : D.Ful (D.fm j) 200 := by rw [Nat.min_eq_right (by omega)] at hful; exact hful
        have j2 : ¬ ((j : Int) ≤ 200) := by omega
        have j3 : (200 : Int) < (j : Int) := by omega
        have j4 : 0 < j := by omega
        have j5 : 200 < j := by omega
        have hg0 : ((List.range j).map D.fky)[0]? = some (D.fky 0) := by rw [List.getElem?_map, List.getElem?_range (by omega)]; rfl
        have hg2 : ((List.range j).map D.fky)[200]? = some (D.fky 200) := by rw [List.getElem?_map, List.getElem?_range (by omega)]; rfl
        obtain ⟨ad, hA, hal, _⟩ := (ow_srow (S := kS) HO.out).rd hg0
        have hS : Hid (∀ V, Ow 39 25 w.heap.size V A j d (kS.rcs ((List.range j).map D.fky)) → kS.rd V ad = some (D.fky 0) ∧ kS.rd V ⟨ad.block, ad.off + 5000, none⟩ = some (D.fky 200)) := Lib.hid fun V hV => by
          obtain ⟨a1, e1, _, r1⟩ := (ow_srow (S := kS) hV).rd hg0
          obtain ⟨a2, e2, _, r2⟩ := (ow_srow (S := kS) hV).rd hg2
          rw [hA] at e1 e2
          injection e1 with e1
          injection e2 with e2
          subst e1 e2
          exact ⟨by have r1 := show kS.rd V (ad.add 0) = some (D.fky 0) from r1; rwa [add_zero_] at r1, r2⟩
        obtain ⟨he, hlv⟩ := hf2.two
        have C1 : Hid (∀ W, SM w.heap.size W s (D.fm j) → Calls Tryz.prog 15 #[.pointer (some ⟨s, 0, none⟩), .slice (some ⟨W.heap.size, 0, none⟩) 2 2] (W.alloc (.cells (twos D.fxd (D.fx 200)) 65)) fun e w' => e = .returned (.tuple #[.int .u64 ((D.fm j).time [D.fxd, D.fx 200] : Nat), .int .i64 0]) ∧ SM w.heap.size w' s ((D.fm j).pub [D.fxd, D.fx 200]) ∧ Frm w.heap.size (W.alloc (.cells (twos D.fxd (D.fx 200)) 65)) w') := Lib.hid fun W h => by
          have := spub_any (c := 2) hR (h.on (below_alloc_ W (.cells (twos D.fxd (D.fx 200)) 65))) (by rw [hf2.last]; decide) (by have := hf2.ks; omega) (xr_two W D.fxd (D.fx 200)) D.fx2_wf (by decide)
          rwa [he, show ((0 : Nat) : Int) = 0 from rfl] at this
        have hd1 : (⟨D.fky 0, true, D.zRc⟩ : D.Wt) = D.fxd := rfl
        have hd2 : (⟨D.fky 200, false, D.frc⟩ : D.Wt) = D.fx 200 := rfl
        obtain ⟨M1, hM1⟩ : ∃ M1, (D.fm j).pub [D.fxd, D.fx 200] = M1 := ⟨_, rfl⟩
        obtain ⟨tm, htm⟩ : ∃ tm, (D.fm j).time [D.fxd, D.fx 200] = tm := ⟨_, rfl⟩
        rw [hM1] at C1 hlv
        rw [htm] at C1
        have CL : Hid (∀ W, SM w.heap.size W s M1 → Calls Tryz.prog 19 #[.pointer (some ⟨s, 0, none⟩)] W fun e w' => e = .returned (.int .i64 200) ∧ Below W.heap.size W w') := Lib.hid fun W h => by
          have := slive_any (SO.of h)
          rwa [hlv] at this
        subst hA
        clear hful hf2 h2 hg0 hg2 hal he hlv hM1 htm
        go_wp2_with fail
        have bd : Below wr.heap.size wr wr.drew := (Below.refl _ _).drew
        have HSd := Lib.hid (HS.out.on bd)
        have HOd := Lib.hid (HO.out.on bd)
        have HBd := Lib.hid (below_up HB.out HB.out.size bd)
        have sd := hS.out _ HOd.out
        refine wp_region_noPanic ?_
        refine wp_region_held_drew (S := (fun V => kS.rd V ad = some (D.fky 0) ∧ kS.rd V ⟨ad.block, ad.off + 5000, none⟩ = some (D.fky 200))) (by kernel_rfl) sd (fun _ => ?_)
        refine takeS 0 (some 84) ?v2 (by kernel_rfl) (by kernel_rfl) (by kernel_rfl) (by kernel_rfl) (fun _ _ _ h => h) (by rfl) ?hy2 sd ?rest2
        case hy2 => (intro o ho W hW; simp only [List.getElem?_toArray, List.getElem?_cons_succ, List.getElem?_cons_zero, Option.some.injEq] at ho; subst ho; (try dsimp only at hW); skip; go_simp; try rfl)
        try simp only [Act.put, List.setIfInBounds_toArray, List.set_cons_zero, List.set_cons_succ]
        refine takeS 1 (some 85) ?v3 (by kernel_rfl) (by kernel_rfl) (by kernel_rfl) (by kernel_rfl) (fun _ _ _ h => h) (by rfl) ?hy3 sd ?rest3
        case hy3 => (intro o ho W hW; simp only [List.getElem?_toArray, List.getElem?_cons_succ, List.getElem?_cons_zero, Option.some.injEq] at ho; subst ho; (try dsimp only at hW); skip; go_simp; try rfl)
        try simp only [Act.put, List.setIfInBounds_toArray, List.set_cons_zero, List.set_cons_succ]
        refine takeS 5 (some 89) ?v4 (by kernel_rfl) (by kernel_rfl) (by kernel_rfl) (by kernel_rfl) (fun _ _ _ h => h) (by rfl) ?hy4 sd ?rest4
        case hy4 => (intro o ho W hW; simp only [List.getElem?_toArray, List.getElem?_cons_succ, List.getElem?_cons_zero, Option.some.injEq] at ho; subst ho; (try dsimp only at hW); skip; go_simp; try rfl)
        try simp only [Act.put, List.setIfInBounds_toArray, List.set_cons_zero, List.set_cons_succ]
        refine takeS 8 (some 92) ?v5 (by kernel_rfl) (by kernel_rfl) (by kernel_rfl) (by kernel_rfl) (fun _ _ _ h => h) (by rfl) ?hy5 sd ?rest5
        case hy5 => (intro o ho W hW; simp only [List.getElem?_toArray, List.getElem?_cons_succ, List.getElem?_cons_zero, Option.some.injEq] at ho; subst ho; (try dsimp only at hW); skip; go_simp; try rfl)
        try simp only [Act.put, List.setIfInBounds_toArray, List.set_cons_zero, List.set_cons_succ]
        refine takeS 2 (some 86) ?v6 (by kernel_rfl) (by kernel_rfl) (by kernel_rfl) (by kernel_rfl) (fun _ _ _ h => h) (by rfl) ?hy6 sd ?rest6
        case hy6 => (intro o ho W hW; simp only [List.getElem?_toArray, List.getElem?_cons_succ, List.getElem?_cons_zero, Option.some.injEq] at ho; subst ho; (try dsimp only at hW); skip; go_simp; try rfl)
        try simp only [Act.put, List.setIfInBounds_toArray, List.set_cons_zero, List.set_cons_succ]
        refine takeS 6 (some 90) ?v7 (by kernel_rfl) (by kernel_rfl) (by kernel_rfl) (by kernel_rfl) (fun _ _ _ h => h) (by rfl) ?hy7 sd ?rest7
        case hy7 => (intro o ho W hW; simp only [List.getElem?_toArray, List.getElem?_cons_succ, List.getElem?_cons_zero, Option.some.injEq] at ho; subst ho; (try dsimp only at hW); skip; go_simp; try rfl)
        try simp only [Act.put, List.setIfInBounds_toArray, List.set_cons_zero, List.set_cons_succ]
        refine takeS 3 (some 87) ?v8 (by kernel_rfl) (by kernel_rfl) (by kernel_rfl) (by kernel_rfl) (fun _ _ _ h => h) (by rfl) ?hy8 sd ?rest8
        case hy8 => (intro o ho W hW; simp only [List.getElem?_toArray, List.getElem?_cons_succ, List.getElem?_cons_zero, Option.some.injEq] at ho; subst ho; (try dsimp only at hW); obtain ⟨a_, b_⟩ := hW; go_simp; try rfl)
        try simp only [Act.put, List.setIfInBounds_toArray, List.set_cons_zero, List.set_cons_succ]
        refine takeS 7 (some 91) ?v9 (by kernel_rfl) (by kernel_rfl) (by kernel_rfl) (by kernel_rfl) (fun _ _ _ h => h) (by rfl) ?hy9 sd ?rest9
        case hy9 => (intro o ho W hW; simp only [List.getElem?_toArray, List.getElem?_cons_succ, List.getElem?_cons_zero, Option.some.injEq] at ho; subst ho; (try dsimp only at hW); obtain ⟨a_, b_⟩ := hW; go_simp; try rfl)
        try simp only [Act.put, List.setIfInBounds_toArray, List.set_cons_zero, List.set_cons_succ]
        refine takeS 4 (some 88) ?v10 (by kernel_rfl) (by kernel_rfl) (by kernel_rfl) (by kernel_rfl) (fun _ _ _ h => h) (by rfl) ?hy10 sd ?rest10
        case hy10 => (intro o ho W hW; simp only [List.getElem?_toArray, List.getElem?_cons_succ, List.getElem?_cons_zero, Option.some.injEq] at ho; subst ho; (try dsimp only at hW); skip; go_simp; try rfl)
        try simp only [Act.put, List.setIfInBounds_toArray, List.set_cons_zero, List.set_cons_succ]
        refine takeS 9 (some 93) ?v11 (by kernel_rfl) (by kernel_rfl) (by kernel_rfl) (by kernel_rfl) (fun _ _ _ h => h) (by rfl) ?hy11 sd ?rest11
        case hy11 => (intro o ho W hW; simp only [List.getElem?_toArray, List.getElem?_cons_succ, List.getElem?_cons_zero, Option.some.injEq] at ho; subst ho; (try dsimp only at hW); skip; go_simp; try rfl)
        try simp only [Act.put, List.setIfInBounds_toArray, List.set_cons_zero, List.set_cons_succ]
        refine nextS 10 (by kernel_rfl) (by rfl) (fun o ho K hK => ?_)
        simp only [List.getElem?_toArray, List.getElem?_cons_succ, List.getElem?_cons_zero, Option.some.injEq] at ho; subst ho
        go_simp
        have HB2 := Lib.hid (below_up HBd.out HBd.out.size (below_alloc_ wr.drew (.cells (twos D.fxd (D.fx 200)) 65)))
        have HO2 := Lib.hid (HOd.out.on (below_alloc_ wr.drew (.cells (twos D.fxd (D.fx 200)) 65)))
        have s2 := hS.out _ HO2.out
        refine hK.out _ _ s2 (fun _ => ?_)
        clear hK K
        try simp only [Act.put, List.setIfInBounds_toArray, List.set_cons_zero, List.set_cons_succ]
        refine nextS 11 (by kernel_rfl) (by rfl) (fun o ho K hK => ?_)
        simp only [List.getElem?_toArray, List.getElem?_cons_succ, List.getElem?_cons_zero, Option.some.injEq] at ho; subst ho
        go_simp
        go_at_call 15
        refine (C1.out _ HSd.out).mono ?_
        rintro e w3 ⟨rfl, hS3, f3⟩
        have HS3 := Lib.hid hS3
        have HB3 := Lib.hid (Frm.bel f3 HB2.out HB2.out.size)
        have s3 := hS.out _ (Frm.ow f3 HO2.out (by decide))
        clear hS3 f3
        refine hK.out _ _ s3 (fun _ => ?_)
        clear hK K
        try simp only [Act.put, List.setIfInBounds_toArray, List.set_cons_zero, List.set_cons_succ]
        refine takeS 12 (some 83) ?v16 (by kernel_rfl) (by kernel_rfl) (by kernel_rfl) (by kernel_rfl) (fun _ _ _ h => h) (by rfl) ?hy16 s3 ?rest16
        case hy16 => (intro o ho W hW; simp only [List.getElem?_toArray, List.getElem?_cons_succ, List.getElem?_cons_zero, Option.some.injEq] at ho; subst ho; (try dsimp only at hW); skip; go_simp; try rfl)
        try simp only [Act.put, List.setIfInBounds_toArray, List.set_cons_zero, List.set_cons_succ]
        refine takeS 13 (some 96) ?v17 (by kernel_rfl) (by kernel_rfl) (by kernel_rfl) (by kernel_rfl) (fun _ _ _ h => h) (by rfl) ?hy17 s3 ?rest17
        case hy17 => (intro o ho W hW; simp only [List.getElem?_toArray, List.getElem?_cons_succ, List.getElem?_cons_zero, Option.some.injEq] at ho; subst ho; (try dsimp only at hW); skip; go_simp; try rfl)
        try simp only [Act.put, List.setIfInBounds_toArray, List.set_cons_zero, List.set_cons_succ]
        refine takeS 14 (some 97) ?v18 (by kernel_rfl) (by kernel_rfl) (by kernel_rfl) (by kernel_rfl) (fun _ _ _ h => h) (by rfl) ?hy18 s3 ?rest18
        case hy18 => (intro o ho W hW; simp only [List.getElem?_toArray, List.getElem?_cons_succ, List.getElem?_cons_zero, Option.some.injEq] at ho; subst ho; (try dsimp only at hW); skip; go_simp; try rfl)
        try simp only [Act.put, List.setIfInBounds_toArray, List.set_cons_zero, List.set_cons_succ]
        refine takeS 15 (some 10) ?v19 (by kernel_rfl) (by kernel_rfl) (by kernel_rfl) (by kernel_rfl) (fun _ _ _ h => h) (by rfl) ?hy19 s3 ?rest19
        case hy19 => (intro o ho W hW; simp only [List.getElem?_toArray, List.getElem?_cons_succ, List.getElem?_cons_zero, Option.some.injEq] at ho; subst ho; (try dsimp only at hW); skip; go_simp; try rfl)
        try simp only [Act.put, List.setIfInBounds_toArray, List.set_cons_zero, List.set_cons_succ]
        refine takeS 16 (some 11) ?v20 (by kernel_rfl) (by kernel_rfl) (by kernel_rfl) (by kernel_rfl) (fun _ _ _ h => h) (by rfl) ?hy20 s3 ?rest20
        case hy20 => (intro o ho W hW; simp only [List.getElem?_toArray, List.getElem?_cons_succ, List.getElem?_cons_zero, Option.some.injEq] at ho; subst ho; (try dsimp only at hW); skip; go_simp; try rfl)
        try simp only [Act.put, List.setIfInBounds_toArray, List.set_cons_zero, List.set_cons_succ]
        refine wpAnyH_done (by kernel_rfl) ?_ _
        refine NoPanic.normal ?_
        go_wp2_with (first
          | (go_at_call 10; refine (known_any kr_all _).mono ?_; rintro e w7 ⟨rfl, b7⟩; have D7 := Lib.hid b7; clear b7)
          | (go_at_call 19; (with_reducible refine (CL.out _ (HS3.out.on D7.out)).mono ?_); rintro e w8 ⟨rfl, b8⟩; have D8 := Lib.hid (below_up D7.out D7.out.size b8); clear b8))
        go_ret
        exact ⟨rfl, below_up HB3.out HB3.out.size D8.out⟩
end Go.Proofs.YteiikacgcfidmaaGreatDoor
namespace Go.Proofs.YteiikacgcfidmaaGreatDoor
open Go.Shelf Go.RowKit
def laysC172_ren : Go.Shelf.Ren := ⟨fun | 172 => 102 | 244 => 151 | 245 => 152 | 247 => 176 | 279 => 177 | 280 => 178 | 281 => 179 | 282 => 180 | 287 => 196 | 316 => 197 | 171 => 73 | 205 => 198 | 321 => 219 | 322 => 220 | 243 => 113 | 246 => 160 | 283 => 185 | 284 => 186 | 285 => 187 | 286 => 188 | 129 => 202 | 317 => 201 | 318 => 203 | 319 => 204 | 320 => 205 | 337 => 224 | 338 => 225 | n => n, fun | 9 => 9 | 3 => 3 | 75 => 200 | 76 => 201 | 4 => 4 | 5 => 5 | 167 => 260 | 37 => 71 | 0 => 0 | 85 => 261 | 2 => 2 | 168 => 263 | 53 => 44 | 175 => 285 | 46 => 240 | 210 => 288 | 127 => 230 | 145 => 310 | 143 => 308 | 21 => 21 | 171 => 269 | 173 => 272 | 212 => 295 | 51 => 51 | 20 => 20 | 213 => 296 | 232 => 324 | 233 => 325 | 80 => 109 | n => n, fun | 15 => 3 | 16 => 4 | 17 => 6 | 18 => 7 | 19 => 8 | n => n⟩
theorem laysC172 : Go.Proofs.LaysC.n172 Tryz.prog laysC172_ren := {
  mixed := by kernel_rfl
  f129 := Tryz.func202.trans (congrArg some (by kernel_rfl))
  f171 := Tryz.func73.trans (congrArg some (by kernel_rfl))
  f172 := Tryz.func102.trans (congrArg some (by kernel_rfl))
  f205 := Tryz.func198.trans (congrArg some (by kernel_rfl))
  f243 := Tryz.func113.trans (congrArg some (by kernel_rfl))
  f244 := Tryz.func151.trans (congrArg some (by kernel_rfl))
  f245 := Tryz.func152.trans (congrArg some (by kernel_rfl))
  f246 := Tryz.func160.trans (congrArg some (by kernel_rfl))
  f247 := Tryz.func176.trans (congrArg some (by kernel_rfl))
  f279 := Tryz.func177.trans (congrArg some (by kernel_rfl))
  f280 := Tryz.func178.trans (congrArg some (by kernel_rfl))
  f281 := Tryz.func179.trans (congrArg some (by kernel_rfl))
  f282 := Tryz.func180.trans (congrArg some (by kernel_rfl))
  f283 := Tryz.func185.trans (congrArg some (by kernel_rfl))
  f284 := Tryz.func186.trans (congrArg some (by kernel_rfl))
  f285 := Tryz.func187.trans (congrArg some (by kernel_rfl))
  f286 := Tryz.func188.trans (congrArg some (by kernel_rfl))
  f287 := Tryz.func196.trans (congrArg some (by kernel_rfl))
  f316 := Tryz.func197.trans (congrArg some (by kernel_rfl))
  f317 := Tryz.func201.trans (congrArg some (by kernel_rfl))
  f318 := Tryz.func203.trans (congrArg some (by kernel_rfl))
  f319 := Tryz.func204.trans (congrArg some (by kernel_rfl))
  f320 := Tryz.func205.trans (congrArg some (by kernel_rfl))
  f321 := Tryz.func219.trans (congrArg some (by kernel_rfl))
  f322 := Tryz.func220.trans (congrArg some (by kernel_rfl))
  f337 := Tryz.func224.trans (congrArg some (by kernel_rfl))
  f338 := Tryz.func225.trans (congrArg some (by kernel_rfl))
  t0 := Tryz.underlying0
  a0 := Tryz.isAgg0
  z0 := Tryz.sizeOf0
  v0 := Tryz.zeroValue0
  t2 := Tryz.underlying2
  a2 := Tryz.isAgg2
  z2 := Tryz.sizeOf2
  v2 := Tryz.zeroValue2
  t3 := Tryz.underlying3
  a3 := Tryz.isAgg3
  z3 := Tryz.sizeOf3
  v3 := Tryz.zeroValue3
  t4 := Tryz.underlying4
  a4 := Tryz.isAgg4
  z4 := Tryz.sizeOf4
  v4 := Tryz.zeroValue4
  t5 := Tryz.underlying5
  a5 := Tryz.isAgg5
  z5 := Tryz.sizeOf5
  v5 := Tryz.zeroValue5
  t9 := Tryz.underlying9
  a9 := Tryz.isAgg9
  z9 := Tryz.sizeOf9
  v9 := Tryz.zeroValue9
  t20 := Tryz.underlying20
  a20 := Tryz.isAgg20
  z20 := Tryz.sizeOf20
  v20 := Tryz.zeroValue20
  t21 := Tryz.underlying21
  a21 := Tryz.isAgg21
  z21 := Tryz.sizeOf21
  v21 := Tryz.zeroValue21
  t37 := Tryz.underlying71
  a37 := Tryz.isAgg71
  z37 := Tryz.sizeOf71
  v37 := Tryz.zeroValue71
  t46 := Tryz.underlying240
  a46 := Tryz.isAgg240
  z46 := Tryz.sizeOf240
  v46 := Tryz.zeroValue240
  t51 := Tryz.underlying51
  a51 := Tryz.isAgg51
  z51 := Tryz.sizeOf51
  v51 := Tryz.zeroValue51
  t53 := Tryz.underlying44
  a53 := Tryz.isAgg44
  z53 := Tryz.sizeOf44
  v53 := Tryz.zeroValue44
  t75 := Tryz.underlying200
  a75 := Tryz.isAgg200
  z75 := Tryz.sizeOf200
  v75 := Tryz.zeroValue200
  t76 := Tryz.underlying201
  a76 := Tryz.isAgg201
  z76 := Tryz.sizeOf201
  v76 := Tryz.zeroValue201
  t85 := Tryz.underlying261
  a85 := Tryz.isAgg261
  z85 := Tryz.sizeOf261
  v85 := Tryz.zeroValue261
  t127 := Tryz.underlying230
  a127 := Tryz.isAgg230
  z127 := Tryz.sizeOf230
  v127 := Tryz.zeroValue230
  t143 := Tryz.underlying308
  a143 := Tryz.isAgg308
  z143 := Tryz.sizeOf308
  v143 := Tryz.zeroValue308
  t145 := Tryz.underlying310
  a145 := Tryz.isAgg310
  z145 := Tryz.sizeOf310
  v145 := Tryz.zeroValue310
  t167 := Tryz.underlying260
  a167 := Tryz.isAgg260
  z167 := Tryz.sizeOf260
  v167 := Tryz.zeroValue260
  t168 := Tryz.underlying263
  a168 := Tryz.isAgg263
  z168 := Tryz.sizeOf263
  v168 := Tryz.zeroValue263
  t171 := Tryz.underlying269
  a171 := Tryz.isAgg269
  z171 := Tryz.sizeOf269
  v171 := Tryz.zeroValue269
  t173 := Tryz.underlying272
  a173 := Tryz.isAgg272
  z173 := Tryz.sizeOf272
  v173 := Tryz.zeroValue272
  t175 := Tryz.underlying285
  a175 := Tryz.isAgg285
  z175 := Tryz.sizeOf285
  v175 := Tryz.zeroValue285
  t210 := Tryz.underlying288
  a210 := Tryz.isAgg288
  z210 := Tryz.sizeOf288
  v210 := Tryz.zeroValue288
  t212 := Tryz.underlying295
  a212 := Tryz.isAgg295
  z212 := Tryz.sizeOf295
  v212 := Tryz.zeroValue295
  t213 := Tryz.underlying296
  a213 := Tryz.isAgg296
  z213 := Tryz.sizeOf296
  t232 := Tryz.underlying324
  a232 := Tryz.isAgg324
  z232 := Tryz.sizeOf324
  v232 := Tryz.zeroValue324
  t233 := Tryz.underlying325
  a233 := Tryz.isAgg325
  z233 := Tryz.sizeOf325
  v233 := Tryz.zeroValue325
  g15 := by kernel_rfl
  g16 := by kernel_rfl
  g17 := by kernel_rfl
  g18 := by kernel_rfl
  g19 := by kernel_rfl
  t80 := Tryz.underlying109
  a80 := Tryz.isAgg109
  z80 := Tryz.sizeOf109
  v80 := Tryz.zeroValue109
  i0 := by kernel_rfl
  i2 := by kernel_rfl
  i3 := by kernel_rfl
  i4 := by kernel_rfl
  i5 := by kernel_rfl
  i9 := by kernel_rfl
  i20 := by kernel_rfl
  i21 := by kernel_rfl
  i37 := by kernel_rfl
  i46 := by kernel_rfl
  i51 := by kernel_rfl
  i53 := by kernel_rfl
  i75 := by kernel_rfl
  i76 := by kernel_rfl
  i80 := by kernel_rfl
  i85 := by kernel_rfl
  i127 := by kernel_rfl
  i143 := by kernel_rfl
  i145 := by kernel_rfl
  i167 := by kernel_rfl
  i168 := by kernel_rfl
  i171 := by kernel_rfl
  i173 := by kernel_rfl
  i175 := by kernel_rfl
  i210 := by kernel_rfl
  i212 := by kernel_rfl
  i232 := by kernel_rfl
  i233 := by kernel_rfl
  m15 := by kernel_rfl
  m16 := by kernel_rfl
  m17 := by kernel_rfl
  m18 := by kernel_rfl
  m19 := by kernel_rfl
  c0 := by kernel_rfl
  c2 := by kernel_rfl
  c3 := by kernel_rfl
  c4 := by kernel_rfl
  c5 := by kernel_rfl
  c9 := by kernel_rfl
  c20 := by kernel_rfl
  c21 := by kernel_rfl
  c37 := by kernel_rfl
  c46 := by kernel_rfl
  c51 := by kernel_rfl
  c53 := by kernel_rfl
  c75 := by kernel_rfl
  c76 := by kernel_rfl
  c80 := by kernel_rfl
  c85 := by kernel_rfl
  c127 := by kernel_rfl
  c143 := by kernel_rfl
  c145 := by kernel_rfl
  c167 := by kernel_rfl
  c168 := by kernel_rfl
  c171 := by kernel_rfl
  c173 := by kernel_rfl
  c175 := by kernel_rfl
  c210 := by kernel_rfl
  c212 := by kernel_rfl
  c213 := by kernel_rfl
  c232 := by kernel_rfl
  c233 := by kernel_rfl }
end Go.Proofs.YteiikacgcfidmaaGreatDoor
set_option linter.unusedVariables false
set_option linter.unusedSimpArgs false
namespace Go.Proofs.YteiikacgcfidmaaGreatDoor
open Go.RowKit Go.Shelf

theorem kjoin_list : ∀ xs : List (List UInt8), (Lib.join xs [47]).map (·.toNat) = D.jn (xs.map fun l => l.map (·.toNat))
  | [] => rfl
  | [x] => by rw [Lib.join_one]; rfl
  | x :: y :: r => by
    have h := kjoin_list (y :: r)
    have e : Lib.join (x :: y :: r) [47] = x ++ 47 :: Lib.join (y :: r) [47] := by
      rw [Lib.join_cons, Lib.join_cons]
      simp [Lib.joinTail]
    rw [e, List.map_append, List.map_cons, h]
    rfl
theorem kjoin_any (bk c : Nat) (xs : List ByteArray) (w : World) (hcells : ∀ (j : Nat) x, xs[j]? = some x → w.cell? ⟨bk, 0 + j, none⟩ = some (.string x)) (hbk : bk < w.heap.size) (hN : xs.length ≤ 100) (hcap : xs.length ≤ c) (hlen : (D.jn (xs.map D.ns)).length ≤ 100) :
    Calls Tryz.prog 76 #[.slice (some ⟨bk, 0, none⟩) xs.length c, .string slash] w fun e w' => e = .returned (.string (D.sb (D.jn (xs.map D.ns)))) ∧ Below w.heap.size w w' := by
  have hj : (Lib.join (xs.map (·.data.toList)) [47]).map (·.toNat) = D.jn (xs.map D.ns) := by
    rw [kjoin_list, List.map_map]; rfl
  have hl : (Lib.join (xs.map (·.data.toList)) [47]).length ≤ 140737488355328 := by
    have := congrArg List.length hj
    rw [List.length_map] at this
    omega
  refine Calls.mono (Any.strings_Join lays156 Builder_Extra_156 bk 0 c xs slash w hcells hbk (by omega) hcap hl) fun e w' ⟨he, hw⟩ => ⟨?_, hw⟩
  rw [he, ← sb_of hj]
/-- The first - byte. -/
theorem kidx_cut (s : ByteArray) : (Lib.indexB s slash = -1 ∧ D.kM (D.ns s) = false) ∨ ∃ i : Nat, Lib.indexB s slash = i ∧ i < s.size ∧ D.kM (D.ns s) = true ∧ D.kP (D.ns s) = (D.ns s).take i ∧ D.kR (D.ns s) = (D.ns s).drop (i + 1) := by
  have e : Lib.indexB s slash = Lib.indexByte s.data.toList 47 := by
    exact Lib.one s slash rfl
  have hns : ∀ k : Nat, (D.ns s)[k]? = some 47 ↔ s.data.toList[k]? = some 47 := by
    intro k
    simp only [D.ns, List.getElem?_map]
    cases h : s.data.toList[k]? with
    | none => simp
    | some b =>
      simp only [Option.map_some, Option.some.injEq]
      constructor
      · intro h; exact UInt8.toNat_inj.1 h
      · rintro rfl; rfl
  rw [e]
  have hge := Lib.indexByte_ge s.data.toList 47
  by_cases h : Lib.indexByte s.data.toList 47 = -1
  · refine .inl ⟨h, D.kM_no fun i hi hc => Lib.indexByte_none h i ((hns i).1 hc)⟩
  · obtain ⟨i, hi⟩ : ∃ i : Nat, Lib.indexByte s.data.toList 47 = i := ⟨(Lib.indexByte s.data.toList 47).toNat, by omega⟩
    obtain ⟨h1, h2⟩ := Lib.indexByte_some hi
    obtain ⟨c1, c2, c3⟩ := D.k_at (t := D.ns s) (k := i) ((hns i).2 h1) (fun (j : Nat) hj hc => h2 j hj ((hns j).1 hc))
    refine .inr ⟨i, hi, ?_, c3, c1, c2⟩
    have := (List.getElem?_eq_some_iff.1 h1).1
    simpa using this
theorem kspn_split : ∀ (k : Nat) (s : ByteArray), (Lib.splitB slash 0 k s).map D.ns = D.spk k (D.ns s)
  | 0, s => rfl
  | k + 1, s => by
    rcases kidx_cut s with ⟨h, hm⟩ | ⟨i, h, hi, hm, hp, hr⟩
    · rw [Lib.splitB_miss _ _ _ _ h, D.spk, hm]; rfl
    · rw [Lib.splitB_hit _ _ _ _ i h, D.spk, hm, if_pos rfl, hp, hr, List.map_cons, kspn_split k, Nat.add_zero, ns_take]
      have : slash.size = 1 := rfl
      rw [this, ns_drop]
/-- What SplitN makes: so many pieces. -/
theorem ksplit_any (s : ByteArray) (w : World) (hs : s.size ≤ 100) :
    Calls Tryz.prog 43 #[.string s, .string slash, .int .i64 6] w fun e w' => ∃ (xs : List ByteArray) (N : Nat), xs.map D.ns = D.spk 5 (D.ns s) ∧ xs.length ≤ N ∧ N ≤ 6 ∧ e = .returned (.slice (some ⟨w.heap.size, 0, none⟩) xs.length N) ∧ w' = w.alloc (.cells (Lib.cellsOf xs N) 9) := by
  have hi9 : (Tryz.prog.info? 9).map (fun i => (i.zero, i.size, i.bytes)) = some (some (.string ByteArray.empty), 1, 16) := by kernel_rfl
  have hC : Calls Tryz.prog 100 #[.string s, .string slash] w fun e w' => e = .returned (.int .i64 (Lib.countB s slash)) ∧ w' = w := by
    refine Calls.mono (Any.strings_Count_one { lays147 with } s 47 w) fun e w' ⟨he, hw⟩ => ⟨?_, hw⟩
    rw [he]
    show _ = Ending.returned (Value.int .i64 ((Lib.count s.data.toList [47] : Nat) : Int))
    rw [Lib.count_one]
    rfl
  have hI : ∀ (x : ByteArray) (c : Array Value), x.size ≤ s.size → Calls Tryz.prog 66 #[.string x, .string slash] (w.alloc (.cells c 9)) fun e w' => e = .returned (.int .i64 (Lib.indexB x slash)) ∧ w' = w.alloc (.cells c 9) := by
    intro x c _
    refine Calls.mono (Any.strings_Index_one { lays147 with } x 47 _) fun e w' ⟨he, hw⟩ => ⟨?_, hw⟩
    rw [he]
    have := Lib.one x slash rfl
    rw [this]
    rfl
  have c := Any.strings_genSplit_core { lays147 with } hi9 s slash 0 (6 : Int) (min 6 (s.size + 1)) w (by omega) (by decide) (Nat.zero_le _) hI hC (by decide) (by decide) (by rw [if_neg (by decide)]; omega)
  have hlen : (Lib.splitB slash 0 (min 6 (s.size + 1) - 1) s).length ≤ min 6 (s.size + 1) := by
    have := Lib.splitB_length_le slash 0 (min 6 (s.size + 1) - 1) s
    omega
  have hsp : (Lib.splitB slash 0 (min 6 (s.size + 1) - 1) s).map D.ns = D.spk 5 (D.ns s) := by
    rw [kspn_split]
    by_cases h : 5 ≤ s.size
    · rw [show min 6 (s.size + 1) - 1 = 5 by omega]
    · have := D.spk_more s.size (D.ns s) (by rw [D.ns_len]; exact Nat.le_refl _) (5 - s.size)
      rw [show s.size + (5 - s.size) = 5 by omega] at this
      rw [show min 6 (s.size + 1) - 1 = s.size by omega, this]
  have c' : Calls Tryz.prog 65 #[.string s, .string slash, .int .i64 0, .int .i64 6] w fun e w' => e = .returned (.slice (some ⟨w.heap.size, 0, none⟩) (Lib.splitB slash 0 (min 6 (s.size + 1) - 1) s).length (min 6 (s.size + 1))) ∧ w' = w.alloc (.cells (Lib.cellsOf (Lib.splitB slash 0 (min 6 (s.size + 1) - 1) s) (min 6 (s.size + 1))) 9) := c
  clear c hI hC
  go_enter Tryz.func43, Tryz.ntmps43
  go_wp2_with (go_at_call 65; (with_reducible refine Calls.mono c' ?_); rintro e w' ⟨rfl, rfl⟩)
  go_ret
  exact ⟨_, _, hsp, hlen, by omega, rfl, rfl⟩


theorem itoa_any (i : Nat) (hi : i < 100) (w : World) : Calls Tryz.prog 73 #[.int .i64 (i : Int)] w fun e w' => e = .returned (.string (D.sb (D.dig i))) ∧ w = w' := by
  refine (Any.strconv_Itoa_small lays171 i hi w).mono fun e w' ⟨he, hw⟩ => ⟨?_, hw.symm⟩
  rw [he, sb_of (D.dig_dec hi)]
/-- What the library's variables hold. -/
structure Env (w : World) : Prop where
  max : ∃ m, w.cell? ⟨0, 0, none⟩ = some (.int .i64 m)
  syn : ∃ v, w.cell? ⟨3, 0, none⟩ = some v ∧ (v = .nilIface ∨ ∃ te pe, v = .iface te pe)
  rng : ∃ v, w.cell? ⟨4, 0, none⟩ = some v ∧ (v = .nilIface ∨ ∃ te pe, v = .iface te pe)
theorem Env.on {w w' : World} (h : Env w) (hb : Below w.heap.size w w') : Env w' := by
  obtain ⟨⟨m, h1⟩, ⟨v, h2, h3⟩, ⟨u, h4, h5⟩⟩ := h
  exact ⟨⟨m, cell_kept_ hb h1⟩, ⟨v, cell_kept_ hb h2, h3⟩, ⟨u, cell_kept_ hb h4, h5⟩⟩
theorem Env.drewN {w : World} (h : Env w) (n : Nat) : Env (w.drewN n) := ⟨h.max, h.syn, h.rng⟩
theorem Env.alloc {w : World} (h : Env w) (o : Obj) : Env (w.alloc o) := h.on (below_alloc_ w o)
theorem index_any (s sub : ByteArray) (w : World) (hs : s.size ≤ 100) (hE : Env w) : Calls Tryz.prog 66 #[.string s, .string sub] w fun e w' => e = .returned (.int .i64 (Lib.index s.data.toList sub.data.toList)) ∧ w = w' := by
  obtain ⟨m, hm⟩ := hE.max
  exact (Any.strings_Index lays143 s sub m w (by omega) hm).mono fun e w' ⟨he, hw⟩ => ⟨he, hw.symm⟩
theorem atoi_ok (s : ByteArray) (w : World) (hs : s.size ≤ 100) (v : Int) (h : Lib.atoiAll s.data.toList = .ok v) : Calls Tryz.prog 102 #[.string s] w fun e w' => e = .returned (.tuple #[.int .i64 v, .nilIface]) ∧ Below w.heap.size w w' := by
  refine (Any.strconv_Atoi_ok laysC172 s (by omega) v h w).mono fun e w' ⟨he, hw⟩ => ⟨he, ?_⟩
  rcases hw with rfl | ⟨t, rfl⟩
  · exact Below.refl _ _
  · exact Lib.bytesWorld_below _ _ _
theorem atoi_bad (s : ByteArray) (w : World) (hs : s.size ≤ 100) (h : ∀ v, Lib.atoiAll s.data.toList ≠ .ok v) (hE : Env w) : Calls Tryz.prog 102 #[.string s] w fun e w' => ∃ (v : Int) (t : TypeId) (p : Value), e = .returned (.tuple #[.int .i64 v, .iface t p]) ∧ Below w.heap.size w w' := by
  obtain ⟨ev0, hv0, he0⟩ := hE.syn
  obtain ⟨ev1, hv1, he1⟩ := hE.rng
  cases hq : Lib.atoiAll s.data.toList
  · exact absurd hq (h _)
  · exact (Any.strconv_Atoi_syntax laysC172 s (by omega) hq ev0 w hv0 he0).mono fun e w' ⟨N, he, _, _, hw⟩ => ⟨_, _, _, he, hw⟩
  · exact (Any.strconv_Atoi_range laysC172 s (by omega) hq ev1 w hv1 he1).mono fun e w' ⟨N, he, _, _, hw⟩ => ⟨_, _, _, he, hw⟩
theorem num_bad {s : ByteArray} (h : ∀ v, Lib.atoiAll s.data.toList ≠ .ok v) : D.num s = -1 := by
  unfold D.num
  split
  · rename_i v hv; exact absurd hv (h v)
  · rfl
set_option maxRecDepth 100000 in
theorem number_any (s : ByteArray) (w : World) (hs : s.size ≤ 100) (hE : Env w) : Calls Tryz.prog 69 #[.string s] w fun e w' => e = .returned (.int .i64 (D.num s)) ∧ Below w.heap.size w w' := by
  by_cases h : ∃ v, Lib.atoiAll s.data.toList = .ok v
  · obtain ⟨v, h⟩ := h
    have hr : D.num s = v := by simp only [D.num, h]
    rw [hr]
    have C := atoi_ok s w hs v h
    clear h hr
    go_enter Tryz.func69, Tryz.ntmps69
    go_wp2_with (go_at_call 102; (with_reducible refine C.mono ?_); rintro e w' ⟨rfl, hw⟩)
    go_ret
    exact ⟨rfl, hw⟩
  · have h' : ∀ v, Lib.atoiAll s.data.toList ≠ .ok v := fun v hv => h ⟨v, hv⟩
    rw [num_bad h']
    have C := atoi_bad s w hs h' hE
    clear h h' hE
    go_enter Tryz.func69, Tryz.ntmps69
    go_wp2_with (go_at_call 102; (with_reducible refine C.mono ?_); rintro e w' ⟨v, t, p, rfl, hw⟩)
    go_ret
    exact ⟨rfl, hw⟩
end Go.Proofs.YteiikacgcfidmaaGreatDoor
