/-
  
-/
import Derived.Test.YtjlaffgbmcpldaaGreatDoorG18
import Derived.Shelf.Strings.Builder1
import Derived.Shelf.Strings.Builder2
import Derived.Shelf.Strings.OnBuilder
import Derived.Shelf.Small.Utf8
import Derived.Shelf.Small.Bits
import Derived.Shelf.Strconv.Itoa0
import Derived.Shelf.Strings.Search1
import Derived.Shelf.Strings.Search2
import Derived.Shelf.Strings.Search3
import Derived.Shelf.Strings.Count
import Derived.Shelf.LaysM
import Derived.Shelf.Strings.Shaped
import Derived.Shelf.Strings.Split
import Derived.Shelf.Unicode.Latin
import Derived.Shelf.Unicode.DecodeSlow
import Derived.Shelf.Unicode.CaseLookup
import Derived.Shelf.Unicode.CaseConvert
import Derived.Shelf.Unicode.CaseTo
import Derived.Shelf.Unicode.CaseLaid
import Derived.Shelf.Bytes.SlIndexSmall
import Derived.Shelf.Bytes.SlIndexAt
import Derived.Shelf.Bytes.SlSearch0
import Derived.Shelf.Bytes.SlSearch1
import Derived.Shelf.Bytes.Small
import Derived.Shelf.Bytes.IndexByte
import Derived.Test.YtjlaffgbmcpldaaGreatDoorProg
import Derived.Test.YtjlaffgbmcpldaaGreatDoorG10
import Derived.Test.YtjlaffgbmcpldaaGreatDoorG08
set_option linter.unusedVariables false
set_option linter.unusedSimpArgs false
set_option maxRecDepth 100000
namespace Go.Proofs.YtjlaffgbmcpldaaGreatDoor
open Go.RowKit
attribute [local go_sem ↓] Go.wp_at_zero Go.wp_at_succ ld_k lv_k st_k eq_k ne_k bd_k ld_b lv_b st_b eq_b ne_b bd_25 ld_r lv_r st_rk eq_rk ne_rk bd_r ld_p lv_p st_px bd_p Nm.ld_a Nm.ld_n Nm.st_a Nm.st_n Nm.eq_a Nm.eq_n Nm.ne_a Nm.ne_n Nm.lv_a Nm.lv_n ld_a ld_n st_a st_n eq_a eq_n ne_a ne_n lv_a lv_n ld_l lv_l st_l bd_l bd_n bs_k
attribute [local go_sem] run_ldk run_lvk run_stk run_eqk run_nek run_bdk_z run_ldb run_lvb run_stb run_eqb run_neb run_ldr run_lvr run_strk run_eqrk run_nerk run_bdr_z run_ldp run_lvp run_stpx Nm.run_ld_a Nm.run_ld_n Nm.run_st_n Nm.run_eq_a Nm.run_eq_n Nm.run_ne_a Nm.run_ne_n Nm.run_lv_a Nm.run_lv_n Nm.rd_new Nm.rd_old Nm.rd_drew Nm.rd_drewN run_ld_a run_ld_n run_sw_a run_sw_n run_eq_a run_eq_n run_ne_a run_ne_n run_lv_a run_lv_n st_z ne_z eq_z rd_new rd_old rd_drew rd_drewN Shp.rd_new Shp.rd_old Shp.rd_drew Shp.rd_drewN Shp.rd_set Shp.tn_new Shp.tn_old Shp.tn_drew Shp.tn_drewN tn_new tn_old tn_drew tn_drewN rd_set setRow_alloc run_stn3 run_stt15 run_lvl run_ldl run_stl run_bdl run_bdn run_bdn0 run_bsk

theorem kcell_at {w : World} {g o : Nat} {x : D.Ky} (h : kS.rd w ⟨g, o, none⟩ = some x) {j : Nat} (hj : j < 25) : w.cell? ⟨g, o + j, none⟩ = some (.int .u8 ((x.l.getD j 0 : Nat) : Int)) := by
 have hc : kS.At w ⟨g, o, none⟩ x := Shp.at_of h
 have := hc j (.int .u8 ((x.l.getD j 0 : Nat) : Int)) (bys_get (by rw [x.len]; exact hj))
 rwa [add_o] at this
def D.sd (x : D.Ky) (i : Nat) : Nat := if Cr.Bits.bt x i then 1 else 0
theorem D.sd_le (x : D.Ky) (i : Nat) : D.sd x i ≤ 1 := by unfold D.sd; split <;> omega
theorem side_num : ∀ (b : Fin 256) (k : Fin 8), wrap64 (bits .and .u8 ((b.val : Int) / 2 ^ (7 - k.val)) 1) = if b.val.testBit (7 - k.val) then 1 else 0 := by decide +kernel
set_option maxHeartbeats 1000000 in
theorem side_any (x : D.Ky) (i : Nat) (hi : i < 200) (w : World) : Calls Tryz.prog 132 #[.agg (kS.v x), .int .i64 (i : Nat)] w fun e w' => e = .returned (.int .i64 (D.sd x i : Nat)) ∧ Below w.heap.size w w' := by
 have f0 := Shp.rd_new (S := kS) w w.heap.size 201 x rfl
 have c0 := kcell_at f0 (j := i / 8) (by omega)
 rw [Nat.zero_add] at c0
 have i0 : (0 : Int) ≤ (i : Int) := by omega
 have i1 : (i : Int) < 200 := by omega
 have hs := side_num ⟨x.l.getD (i / 8) 0, D.byte_lt x _⟩ ⟨i % 8, by omega⟩
 have hd : ((D.sd x i : Nat) : Int) = if (x.l.getD (i / 8) 0).testBit (7 - i % 8) then 1 else 0 := by
  unfold D.sd
  rw [D.bt_def]
  unfold D.kbt
  split <;> rfl
 simp only at hs
 rw [← hd] at hs
 obtain ⟨b, hb⟩ : ∃ b, x.l.getD (i / 8) 0 = b := ⟨_, rfl⟩
 rw [hb] at c0 hs
 have HS := Lib.hid hs
 clear hs hd hb
 go_enter Tryz.func132, Tryz.ntmps132
 go_wp2
 go_ret
 refine ⟨?_, below_alloc_ _ _⟩
 rw [← HS.out]
 rfl
end Go.Proofs.YtjlaffgbmcpldaaGreatDoor
namespace Go.Proofs.YtjlaffgbmcpldaaGreatDoor
open Go.Shelf
def lays125_ren : Go.Shelf.Ren := ⟨fun | 125 => 142 | 128 => 175 | 129 => 176 | n => n, fun | 46 => 196 | 3 => 3 | 51 => 73 | 53 => 42 | 4 => 4 | 5 => 5 | 9 => 9 | n => n, fun | n => n⟩
theorem lays125 : Go.Proofs.Lays.n125 Tryz.prog lays125_ren := {
 mixed := by kernel_rfl
 f125 := Tryz.func142.trans (congrArg some (by kernel_rfl))
 f128 := Tryz.func175.trans (congrArg some (by kernel_rfl))
 f129 := Tryz.func176.trans (congrArg some (by kernel_rfl))
 t3 := Tryz.underlying3
 a3 := Tryz.isAgg3
 z3 := Tryz.sizeOf3
 v3 := Tryz.zeroValue3
 t4 := Tryz.underlying4
 a4 := Tryz.isAgg4
 z4 := Tryz.sizeOf4
 v4 := Tryz.zeroValue4
 t5 := Tryz.underlying5
 a5 := Tryz.isAgg5
 z5 := Tryz.sizeOf5
 v5 := Tryz.zeroValue5
 t9 := Tryz.underlying9
 a9 := Tryz.isAgg9
 z9 := Tryz.sizeOf9
 v9 := Tryz.zeroValue9
 t46 := Tryz.underlying196
 a46 := Tryz.isAgg196
 z46 := Tryz.sizeOf196
 v46 := Tryz.zeroValue196
 t51 := Tryz.underlying73
 a51 := Tryz.isAgg73
 z51 := Tryz.sizeOf73
 v51 := Tryz.zeroValue73
 t53 := Tryz.underlying42
 a53 := Tryz.isAgg42
 z53 := Tryz.sizeOf42
 v53 := Tryz.zeroValue42 }
def lays131_ren : Go.Shelf.Ren := ⟨fun | 131 => 163 | 126 => 184 | n => n, fun | 5 => 5 | 3 => 3 | 9 => 9 | n => n, fun | n => n⟩
theorem lays131 : Go.Proofs.Lays.n131 Tryz.prog lays131_ren := {
 mixed := by kernel_rfl
 f126 := Tryz.func184.trans (congrArg some (by kernel_rfl))
 f131 := Tryz.func163.trans (congrArg some (by kernel_rfl))
 t3 := Tryz.underlying3
 a3 := Tryz.isAgg3
 z3 := Tryz.sizeOf3
 v3 := Tryz.zeroValue3
 t5 := Tryz.underlying5
 a5 := Tryz.isAgg5
 z5 := Tryz.sizeOf5
 v5 := Tryz.zeroValue5
 t9 := Tryz.underlying9
 a9 := Tryz.isAgg9
 z9 := Tryz.sizeOf9
 v9 := Tryz.zeroValue9 }
end Go.Proofs.YtjlaffgbmcpldaaGreatDoor
namespace Go.Proofs.YtjlaffgbmcpldaaGreatDoor
open Go.RowKit
attribute [local go_sem ↓] Go.wp_at_zero Go.wp_at_succ ld_k lv_k st_k eq_k ne_k bd_k ld_b lv_b st_b eq_b ne_b bd_25 ld_r lv_r st_rk eq_rk ne_rk bd_r ld_p lv_p st_px bd_p Nm.ld_a Nm.ld_n Nm.st_a Nm.st_n Nm.eq_a Nm.eq_n Nm.ne_a Nm.ne_n Nm.lv_a Nm.lv_n ld_a ld_n st_a st_n eq_a eq_n ne_a ne_n lv_a lv_n ld_l lv_l st_l bd_l bd_n bs_k
attribute [local go_sem] run_ldk run_lvk run_stk run_eqk run_nek run_bdk_z run_ldb run_lvb run_stb run_eqb run_neb run_ldr run_lvr run_strk run_eqrk run_nerk run_bdr_z run_ldp run_lvp run_stpx Nm.run_ld_a Nm.run_ld_n Nm.run_st_n Nm.run_eq_a Nm.run_eq_n Nm.run_ne_a Nm.run_ne_n Nm.run_lv_a Nm.run_lv_n Nm.rd_new Nm.rd_old Nm.rd_drew Nm.rd_drewN run_ld_a run_ld_n run_sw_a run_sw_n run_eq_a run_eq_n run_ne_a run_ne_n run_lv_a run_lv_n st_z ne_z eq_z rd_new rd_old rd_drew rd_drewN Shp.rd_new Shp.rd_old Shp.rd_drew Shp.rd_drewN Shp.rd_set Shp.tn_new Shp.tn_old Shp.tn_drew Shp.tn_drewN tn_new tn_old tn_drew tn_drewN rd_set setRow_alloc run_stn3 run_stt15 run_lvl run_ldl run_stl run_bdl run_bdn run_bdn0 run_bsk Shp.rd_extk cell_ext
theorem wrap8_ {n : Nat} (h : n < 256) : IntKind.u8.wrap (n : Int) = n := by
 simp [IntKind.wrap, IntKind.bits, IntKind.signed]
 omega
theorem xor_num (a b : Nat) (ha : a < 256) (hb : b < 256) : bits .xor .u8 (a : Int) (b : Int) = ((a ^^^ b : Nat) : Int) := by
 have h := D.xor_lt ha hb
 have e : IntKind.u8.bits = 8 := rfl
 simp only [bits, Op.intBits, BitVec.toNat_xor, BitVec.toNat_ofInt, e]
 simp [Nat.mod_eq_of_lt ha, Nat.mod_eq_of_lt hb]
 have e1 : ((a : Int) % 256).toNat = a := by omega
 have e2 : ((b : Int) % 256).toNat = b := by omega
 rw [e1, e2]
 exact wrap8_ h
theorem lz_any (c : Nat) (hc : c < 256) (w : World) : Calls Tryz.prog 163 #[.int .u8 (c : Nat)] w fun e w' => e = .returned (.int .i64 (8 - (Lib.bitLen c : Int))) ∧ w' = w :=
 Any.bits_LeadingZeros8 lays131 (c : Int) w (by omega) (by omega)
theorem quiet_same2 {P : Program} {f : FuncId} {args : Array Value} {w : World} {q n : Nat} {v : Value} (h : Calls P f args (w.drewN (q + n)) fun en w' => en = .returned v ∧ w' = w.drewN (q + n)) : Calls P f args (w.drewN (q + n)) fun en w' => en = .returned v ∧ ∃ u, w' = w.drewN (q + u) :=
 h.mono fun _ _ ⟨he, hw⟩ => ⟨he, n, hw⟩
theorem kbyte {w : World} {g : Nat} {x : D.Ky} (h : kS.rd w ⟨g, 0, none⟩ = some x) {j : Nat} (hj : j < 25) : w.cell? ⟨g, j, none⟩ = some (.int .u8 ((x.l.getD j 0 : Nat) : Int)) := by
 have := kcell_at h hj
 rwa [Nat.zero_add] at this
set_option maxHeartbeats 16000000 in
theorem parting_any (a b : D.Ky) (w : World) : Calls Tryz.prog 130 #[.agg (kS.v a), .agg (kS.v b)] w fun e w' => e = .returned (.int .i64 (Cr.par a b : Nat)) ∧ Below w.heap.size w w' := by
 have CA := Lib.hid (kbytes_any a)
 have CB := Lib.hid (kbytes_any b)
 obtain ⟨r, hr⟩ : ∃ r, Cr.par a b = r := ⟨_, rfl⟩
 rw [hr]
 have HR := Lib.hid hr
 clear hr
 obtain ⟨w0, hw0⟩ : ∃ w0, (w.alloc (.cells (kS.v a) 39)).alloc (.cells (kS.v b) 39) = w0 := ⟨_, rfl⟩
 have f0 : kS.rd w0 ⟨w.heap.size, 0, none⟩ = some a := by rw [← hw0]; exact Shp.rd_on (Shp.rd_new (S := kS) w _ _ _ rfl) (below_alloc_ _ _)
 have f1 : kS.rd w0 ⟨w.heap.size + 1, 0, none⟩ = some b := by rw [← hw0]; exact Shp.rd_new _ _ _ _ (by simp)
 have b0 : Below w.heap.size w w0 := by rw [← hw0]; exact (below_alloc_ _ _).alloc (by simp) _
 go_enter Tryz.func130, Tryz.ntmps130
 go_wp2_with fail
 try rw [hw0]
 clear hw0
 go_cut [5, 6] from 8 (fun s5 s6 wx => ∃ k5 k6 : Nat, s5 = .pointer (some ⟨k5, 0, none⟩) ∧ s6 = .pointer (some ⟨k6, 0, none⟩) ∧ kS.rd wx ⟨k5, 0, none⟩ = some a ∧ kS.rd wx ⟨k6, 0, none⟩ = some b ∧ Below w0.heap.size w0 wx)
 case first =>
  refine wp_region_noPanic ?_
  refine wp_region_held_drew (S := fun W => Below w0.heap.size w0 W) (by kernel_rfl) (Below.refl _ _).drew (fun _ => ?_)
  obtain ⟨wd, hwd⟩ : ∃ wd, w0.drew = wd := ⟨_, rfl⟩
  have sd : Below w0.heap.size w0 wd := by rw [← hwd]; exact (Below.refl _ _).drew
  rw [hwd]
  clear hwd
  refine takeT 0 (some 8) ?vr0 ?hyr0 sd ?restr0
  case hyr0 => (intro o ho W hW; simp only [gT, gS, gZ, sI] at ho; subst ho; (try dsimp only at hW); have g := Shp.rd_on f0 hW; go_simp; try rfl)
  try simp only [Act.put, iT, iZ, iS]
  refine takeT 2 (some 10) ?vr2 ?hyr2 sd ?restr2
  case hyr2 => (intro o ho W hW; simp only [gT, gS, gZ, sI] at ho; subst ho; (try dsimp only at hW); have g := Shp.rd_on f1 hW; go_simp; try rfl)
  try simp only [Act.put, iT, iZ, iS]
  refine fork3 1 4 5 (by kernel_rfl) (by rfl) (by rfl) (by rfl) (fun o ho K hK => ?_) (fun o ho K hK => ?_) (fun o ho K hK => ?_)
  ·simp only [gT, gS, gZ, sI] at ho; subst ho
   go_simp
   (go_at_call 131; (with_reducible refine (CA.out _).mono ?_); rintro e u1w ⟨rfl, b1⟩)
   have s1 : Below w0.heap.size w0 u1w := below_up sd sd.size b1
   refine hK.out _ _ s1 (fun _ => ?_)
   clear hK K
   try simp only [Act.put, iT, iZ, iS]
   refine fork3 3 4 5 (by kernel_rfl) (by rfl) (by rfl) (by rfl) (fun o ho K hK => ?_) (fun o ho K hK => ?_) (fun o ho K hK => ?_)
   ·simp only [gT, gS, gZ, sI] at ho; subst ho
    go_simp
    (go_at_call 131; (with_reducible refine (CB.out _).mono ?_); rintro e u2w ⟨rfl, b2⟩)
    have s2 : Below w0.heap.size w0 u2w := below_up s1 s1.size b2
    refine hK.out _ _ s2 (fun _ => ?_)
    clear hK K
    try simp only [Act.put, iT, iZ, iS]
    refine forkS 4 5 (by kernel_rfl) (by rfl) (by rfl) (fun o ho K hK => ?_) (fun o ho K hK => ?_)
    ·simp only [gT, gS, gZ, sI] at ho; subst ho
     go_simp
     have s3 : Below w0.heap.size w0 (u2w.alloc (.cells z25 201)) := s2.alloc s2.size _
     have q3 : Shp.tn 25 (u2w.alloc (.cells z25 201)) u2w.heap.size = true := Shp.tn_of (Blk.new u2w _ _) rfl
     refine hK.out _ _ s3 (fun _ => ?_)
     clear hK K
     try simp only [Act.put, iT, iZ, iS]
     obtain ⟨u3w, hu3w⟩ : ∃ V, u2w.alloc (.cells z25 201) = V := ⟨_, rfl⟩
     rw [hu3w] at s3 q3
     rw [hu3w]
     clear hu3w
     refine nextS 5 (by kernel_rfl) (by rfl) (fun o ho K hK => ?_)
     simp only [gT, gS, gZ, sI] at ho; subst ho
     go_simp
     have s4 : Below w0.heap.size w0 (u3w.alloc (.cells z25 201)) := s3.alloc s3.size _
     have q4 : Shp.tn 25 (u3w.alloc (.cells z25 201)) u3w.heap.size = true := Shp.tn_of (Blk.new u3w _ _) rfl
     have t4_4 := Shp.tn_on q3 (below_alloc_ u3w (.cells z25 201))
     have ne : u2w.heap.size ≠ u3w.heap.size := Nat.ne_of_lt (Shp.tn_lt q3)
     refine hK.out _ _ s4 (fun _ => ?_)
     clear hK K
     try simp only [Act.put, iT, iZ, iS]
     obtain ⟨u4w, hu4w⟩ : ∃ V, u3w.alloc (.cells z25 201) = V := ⟨_, rfl⟩
     rw [hu4w] at s4 q4 t4_4
     rw [hu4w]
     clear hu4w
     have t6 : Shp.tn 25 (u4w.setRow (u2w.heap.size) (kS.v a)) (u3w.heap.size) = true := Shp.tn_setRow (u2w.heap.size) (kS.v_size a) q4
     refine nextS 6 (by kernel_rfl) (by rfl) (fun o ho K hK => ?_)
     simp only [gT, gS, gZ, sI] at ho; subst ho
     go_simp
     have s6 : Below w0.heap.size w0 (u4w.setRow (u2w.heap.size) (kS.v a)) := below_setRow s4 s2.size _
     refine hK.out _ _ s6 (fun _ => ?_)
     clear hK K
     try simp only [Act.put, iT, iZ, iS]
     refine nextS 7 (by kernel_rfl) (by rfl) (fun o ho K hK => ?_)
     simp only [gT, gS, gZ, sI] at ho; subst ho
     go_simp
     have s7 : Below w0.heap.size w0 ((u4w.setRow (u2w.heap.size) (kS.v a)).setRow (u3w.heap.size) (kS.v b)) := below_setRow s6 s3.size _
     refine hK.out _ _ s7 (fun _ => ?_)
     clear hK K
     try simp only [Act.put, iT, iZ, iS]
     refine wpAnyH_done (by kernel_rfl) ?_ _
     refine NoPanic.normal ?_
     have RB := Shp.rd_set (S := kS) (u4w.setRow (u2w.heap.size) (kS.v a)) (u3w.heap.size) b t6
     have RA : kS.rd ((u4w.setRow (u2w.heap.size) (kS.v a)).setRow (u3w.heap.size) (kS.v b)) ⟨u2w.heap.size, 0, none⟩ = some a := by rw [Shp.rd_far _ _ _ _ ne]; exact Shp.rd_set (S := kS) _ _ _ t4_4
     go_wp2_with fail
     go_meet
     exact ⟨_, _, rfl, rfl, RA, RB, s7⟩
    ·simp only [gT, gS, gZ, sI] at ho; subst ho
     go_simp
     have s5 : Below w0.heap.size w0 (u2w.alloc (.cells z25 201)) := s2.alloc s2.size _
     have q5 : Shp.tn 25 (u2w.alloc (.cells z25 201)) u2w.heap.size = true := Shp.tn_of (Blk.new u2w _ _) rfl
     refine hK.out _ _ s5 (fun _ => ?_)
     clear hK K
     try simp only [Act.put, iT, iZ, iS]
     obtain ⟨u5w, hu5w⟩ : ∃ V, u2w.alloc (.cells z25 201) = V := ⟨_, rfl⟩
     rw [hu5w] at s5 q5
     rw [hu5w]
     clear hu5w
     refine nextS 4 (by kernel_rfl) (by rfl) (fun o ho K hK => ?_)
     simp only [gT, gS, gZ, sI] at ho; subst ho
     go_simp
     have s6 : Below w0.heap.size w0 (u5w.alloc (.cells z25 201)) := s5.alloc s5.size _
     have q6 : Shp.tn 25 (u5w.alloc (.cells z25 201)) u5w.heap.size = true := Shp.tn_of (Blk.new u5w _ _) rfl
     have t5_6 := Shp.tn_on q5 (below_alloc_ u5w (.cells z25 201))
     have ne : u5w.heap.size ≠ u2w.heap.size := Nat.ne_of_gt (Shp.tn_lt q5)
     refine hK.out _ _ s6 (fun _ => ?_)
     clear hK K
     try simp only [Act.put, iT, iZ, iS]
     obtain ⟨u6w, hu6w⟩ : ∃ V, u5w.alloc (.cells z25 201) = V := ⟨_, rfl⟩
     rw [hu6w] at s6 q6 t5_6
     rw [hu6w]
     clear hu6w
     have t6 : Shp.tn 25 (u6w.setRow (u5w.heap.size) (kS.v a)) (u2w.heap.size) = true := Shp.tn_setRow (u5w.heap.size) (kS.v_size a) t5_6
     refine nextS 6 (by kernel_rfl) (by rfl) (fun o ho K hK => ?_)
     simp only [gT, gS, gZ, sI] at ho; subst ho
     go_simp
     have s6 : Below w0.heap.size w0 (u6w.setRow (u5w.heap.size) (kS.v a)) := below_setRow s6 s5.size _
     refine hK.out _ _ s6 (fun _ => ?_)
     clear hK K
     try simp only [Act.put, iT, iZ, iS]
     refine nextS 7 (by kernel_rfl) (by rfl) (fun o ho K hK => ?_)
     simp only [gT, gS, gZ, sI] at ho; subst ho
     go_simp
     have s7 : Below w0.heap.size w0 ((u6w.setRow (u5w.heap.size) (kS.v a)).setRow (u2w.heap.size) (kS.v b)) := below_setRow s6 s2.size _
     refine hK.out _ _ s7 (fun _ => ?_)
     clear hK K
     try simp only [Act.put, iT, iZ, iS]
     refine wpAnyH_done (by kernel_rfl) ?_ _
     refine NoPanic.normal ?_
     have RB := Shp.rd_set (S := kS) (u6w.setRow (u5w.heap.size) (kS.v a)) (u2w.heap.size) b t6
     have RA : kS.rd ((u6w.setRow (u5w.heap.size) (kS.v a)).setRow (u2w.heap.size) (kS.v b)) ⟨u5w.heap.size, 0, none⟩ = some a := by rw [Shp.rd_far _ _ _ _ ne]; exact Shp.rd_set (S := kS) _ _ _ q6
     go_wp2_with fail
     go_meet
     exact ⟨_, _, rfl, rfl, RA, RB, s7⟩
   ·simp only [gT, gS, gZ, sI] at ho; subst ho
    go_simp
    have s7 : Below w0.heap.size w0 (u1w.alloc (.cells z25 201)) := s1.alloc s1.size _
    have q7 : Shp.tn 25 (u1w.alloc (.cells z25 201)) u1w.heap.size = true := Shp.tn_of (Blk.new u1w _ _) rfl
    refine hK.out _ _ s7 (fun _ => ?_)
    clear hK K
    try simp only [Act.put, iT, iZ, iS]
    obtain ⟨u7w, hu7w⟩ : ∃ V, u1w.alloc (.cells z25 201) = V := ⟨_, rfl⟩
    rw [hu7w] at s7 q7
    rw [hu7w]
    clear hu7w
    refine forkS 3 5 (by kernel_rfl) (by rfl) (by rfl) (fun o ho K hK => ?_) (fun o ho K hK => ?_)
    ·simp only [gT, gS, gZ, sI] at ho; subst ho
     go_simp
     (go_at_call 131; (with_reducible refine (CB.out _).mono ?_); rintro e u8w ⟨rfl, b8⟩)
     have s8 : Below w0.heap.size w0 u8w := below_up s7 s7.size b8
     have t4_8 := Shp.tn_on q7 b8
     refine hK.out _ _ s8 (fun _ => ?_)
     clear hK K
     try simp only [Act.put, iT, iZ, iS]
     refine nextS 5 (by kernel_rfl) (by rfl) (fun o ho K hK => ?_)
     simp only [gT, gS, gZ, sI] at ho; subst ho
     go_simp
     have s9 : Below w0.heap.size w0 (u8w.alloc (.cells z25 201)) := s8.alloc s8.size _
     have q9 : Shp.tn 25 (u8w.alloc (.cells z25 201)) u8w.heap.size = true := Shp.tn_of (Blk.new u8w _ _) rfl
     have t4_9 := Shp.tn_on t4_8 (below_alloc_ u8w (.cells z25 201))
     have ne : u1w.heap.size ≠ u8w.heap.size := Nat.ne_of_lt (Shp.tn_lt t4_8)
     refine hK.out _ _ s9 (fun _ => ?_)
     clear hK K
     try simp only [Act.put, iT, iZ, iS]
     obtain ⟨u9w, hu9w⟩ : ∃ V, u8w.alloc (.cells z25 201) = V := ⟨_, rfl⟩
     rw [hu9w] at s9 q9 t4_9
     rw [hu9w]
     clear hu9w
     have t6 : Shp.tn 25 (u9w.setRow (u1w.heap.size) (kS.v a)) (u8w.heap.size) = true := Shp.tn_setRow (u1w.heap.size) (kS.v_size a) q9
     refine nextS 6 (by kernel_rfl) (by rfl) (fun o ho K hK => ?_)
     simp only [gT, gS, gZ, sI] at ho; subst ho
     go_simp
     have s6 : Below w0.heap.size w0 (u9w.setRow (u1w.heap.size) (kS.v a)) := below_setRow s9 s1.size _
     refine hK.out _ _ s6 (fun _ => ?_)
     clear hK K
     try simp only [Act.put, iT, iZ, iS]
     refine nextS 7 (by kernel_rfl) (by rfl) (fun o ho K hK => ?_)
     simp only [gT, gS, gZ, sI] at ho; subst ho
     go_simp
     have s7 : Below w0.heap.size w0 ((u9w.setRow (u1w.heap.size) (kS.v a)).setRow (u8w.heap.size) (kS.v b)) := below_setRow s6 s8.size _
     refine hK.out _ _ s7 (fun _ => ?_)
     clear hK K
     try simp only [Act.put, iT, iZ, iS]
     refine wpAnyH_done (by kernel_rfl) ?_ _
     refine NoPanic.normal ?_
     have RB := Shp.rd_set (S := kS) (u9w.setRow (u1w.heap.size) (kS.v a)) (u8w.heap.size) b t6
     have RA : kS.rd ((u9w.setRow (u1w.heap.size) (kS.v a)).setRow (u8w.heap.size) (kS.v b)) ⟨u1w.heap.size, 0, none⟩ = some a := by rw [Shp.rd_far _ _ _ _ ne]; exact Shp.rd_set (S := kS) _ _ _ t4_9
     go_wp2_with fail
     go_meet
     exact ⟨_, _, rfl, rfl, RA, RB, s7⟩
    ·simp only [gT, gS, gZ, sI] at ho; subst ho
     go_simp
     have s10 : Below w0.heap.size w0 (u7w.alloc (.cells z25 201)) := s7.alloc s7.size _
     have q10 : Shp.tn 25 (u7w.alloc (.cells z25 201)) u7w.heap.size = true := Shp.tn_of (Blk.new u7w _ _) rfl
     have t4_10 := Shp.tn_on q7 (below_alloc_ u7w (.cells z25 201))
     have ne : u1w.heap.size ≠ u7w.heap.size := Nat.ne_of_lt (Shp.tn_lt q7)
     refine hK.out _ _ s10 (fun _ => ?_)
     clear hK K
     try simp only [Act.put, iT, iZ, iS]
     obtain ⟨u10w, hu10w⟩ : ∃ V, u7w.alloc (.cells z25 201) = V := ⟨_, rfl⟩
     rw [hu10w] at s10 q10 t4_10
     rw [hu10w]
     clear hu10w
     refine nextS 3 (by kernel_rfl) (by rfl) (fun o ho K hK => ?_)
     simp only [gT, gS, gZ, sI] at ho; subst ho
     go_simp
     (go_at_call 131; (with_reducible refine (CB.out _).mono ?_); rintro e u11w ⟨rfl, b11⟩)
     have s11 : Below w0.heap.size w0 u11w := below_up s10 s10.size b11
     have t4_11 := Shp.tn_on t4_10 b11
     have t5_11 := Shp.tn_on q10 b11
     refine hK.out _ _ s11 (fun _ => ?_)
     clear hK K
     try simp only [Act.put, iT, iZ, iS]
     have t6 : Shp.tn 25 (u11w.setRow (u1w.heap.size) (kS.v a)) (u7w.heap.size) = true := Shp.tn_setRow (u1w.heap.size) (kS.v_size a) t5_11
     refine nextS 6 (by kernel_rfl) (by rfl) (fun o ho K hK => ?_)
     simp only [gT, gS, gZ, sI] at ho; subst ho
     go_simp
     have s6 : Below w0.heap.size w0 (u11w.setRow (u1w.heap.size) (kS.v a)) := below_setRow s11 s1.size _
     refine hK.out _ _ s6 (fun _ => ?_)
     clear hK K
     try simp only [Act.put, iT, iZ, iS]
     refine nextS 7 (by kernel_rfl) (by rfl) (fun o ho K hK => ?_)
     simp only [gT, gS, gZ, sI] at ho; subst ho
     go_simp
     have s7 : Below w0.heap.size w0 ((u11w.setRow (u1w.heap.size) (kS.v a)).setRow (u7w.heap.size) (kS.v b)) := below_setRow s6 s7.size _
     refine hK.out _ _ s7 (fun _ => ?_)
     clear hK K
     try simp only [Act.put, iT, iZ, iS]
     refine wpAnyH_done (by kernel_rfl) ?_ _
     refine NoPanic.normal ?_
     have RB := Shp.rd_set (S := kS) (u11w.setRow (u1w.heap.size) (kS.v a)) (u7w.heap.size) b t6
     have RA : kS.rd ((u11w.setRow (u1w.heap.size) (kS.v a)).setRow (u7w.heap.size) (kS.v b)) ⟨u1w.heap.size, 0, none⟩ = some a := by rw [Shp.rd_far _ _ _ _ ne]; exact Shp.rd_set (S := kS) _ _ _ t4_11
     go_wp2_with fail
     go_meet
     exact ⟨_, _, rfl, rfl, RA, RB, s7⟩
   ·simp only [gT, gS, gZ, sI] at ho; subst ho
    go_simp
    have s12 : Below w0.heap.size w0 (u1w.alloc (.cells z25 201)) := s1.alloc s1.size _
    have q12 : Shp.tn 25 (u1w.alloc (.cells z25 201)) u1w.heap.size = true := Shp.tn_of (Blk.new u1w _ _) rfl
    refine hK.out _ _ s12 (fun _ => ?_)
    clear hK K
    try simp only [Act.put, iT, iZ, iS]
    obtain ⟨u12w, hu12w⟩ : ∃ V, u1w.alloc (.cells z25 201) = V := ⟨_, rfl⟩
    rw [hu12w] at s12 q12
    rw [hu12w]
    clear hu12w
    refine forkS 3 4 (by kernel_rfl) (by rfl) (by rfl) (fun o ho K hK => ?_) (fun o ho K hK => ?_)
    ·simp only [gT, gS, gZ, sI] at ho; subst ho
     go_simp
     (go_at_call 131; (with_reducible refine (CB.out _).mono ?_); rintro e u13w ⟨rfl, b13⟩)
     have s13 : Below w0.heap.size w0 u13w := below_up s12 s12.size b13
     have t5_13 := Shp.tn_on q12 b13
     refine hK.out _ _ s13 (fun _ => ?_)
     clear hK K
     try simp only [Act.put, iT, iZ, iS]
     refine nextS 4 (by kernel_rfl) (by rfl) (fun o ho K hK => ?_)
     simp only [gT, gS, gZ, sI] at ho; subst ho
     go_simp
     have s14 : Below w0.heap.size w0 (u13w.alloc (.cells z25 201)) := s13.alloc s13.size _
     have q14 : Shp.tn 25 (u13w.alloc (.cells z25 201)) u13w.heap.size = true := Shp.tn_of (Blk.new u13w _ _) rfl
     have t5_14 := Shp.tn_on t5_13 (below_alloc_ u13w (.cells z25 201))
     have ne : u13w.heap.size ≠ u1w.heap.size := Nat.ne_of_gt (Shp.tn_lt t5_13)
     refine hK.out _ _ s14 (fun _ => ?_)
     clear hK K
     try simp only [Act.put, iT, iZ, iS]
     obtain ⟨u14w, hu14w⟩ : ∃ V, u13w.alloc (.cells z25 201) = V := ⟨_, rfl⟩
     rw [hu14w] at s14 q14 t5_14
     rw [hu14w]
     clear hu14w
     have t6 : Shp.tn 25 (u14w.setRow (u13w.heap.size) (kS.v a)) (u1w.heap.size) = true := Shp.tn_setRow (u13w.heap.size) (kS.v_size a) t5_14
     refine nextS 6 (by kernel_rfl) (by rfl) (fun o ho K hK => ?_)
     simp only [gT, gS, gZ, sI] at ho; subst ho
     go_simp
     have s6 : Below w0.heap.size w0 (u14w.setRow (u13w.heap.size) (kS.v a)) := below_setRow s14 s13.size _
     refine hK.out _ _ s6 (fun _ => ?_)
     clear hK K
     try simp only [Act.put, iT, iZ, iS]
     refine nextS 7 (by kernel_rfl) (by rfl) (fun o ho K hK => ?_)
     simp only [gT, gS, gZ, sI] at ho; subst ho
     go_simp
     have s7 : Below w0.heap.size w0 ((u14w.setRow (u13w.heap.size) (kS.v a)).setRow (u1w.heap.size) (kS.v b)) := below_setRow s6 s1.size _
     refine hK.out _ _ s7 (fun _ => ?_)
     clear hK K
     try simp only [Act.put, iT, iZ, iS]
     refine wpAnyH_done (by kernel_rfl) ?_ _
     refine NoPanic.normal ?_
     have RB := Shp.rd_set (S := kS) (u14w.setRow (u13w.heap.size) (kS.v a)) (u1w.heap.size) b t6
     have RA : kS.rd ((u14w.setRow (u13w.heap.size) (kS.v a)).setRow (u1w.heap.size) (kS.v b)) ⟨u13w.heap.size, 0, none⟩ = some a := by rw [Shp.rd_far _ _ _ _ ne]; exact Shp.rd_set (S := kS) _ _ _ q14
     go_wp2_with fail
     go_meet
     exact ⟨_, _, rfl, rfl, RA, RB, s7⟩
    ·simp only [gT, gS, gZ, sI] at ho; subst ho
     go_simp
     have s15 : Below w0.heap.size w0 (u12w.alloc (.cells z25 201)) := s12.alloc s12.size _
     have q15 : Shp.tn 25 (u12w.alloc (.cells z25 201)) u12w.heap.size = true := Shp.tn_of (Blk.new u12w _ _) rfl
     have t5_15 := Shp.tn_on q12 (below_alloc_ u12w (.cells z25 201))
     have ne : u12w.heap.size ≠ u1w.heap.size := Nat.ne_of_gt (Shp.tn_lt q12)
     refine hK.out _ _ s15 (fun _ => ?_)
     clear hK K
     try simp only [Act.put, iT, iZ, iS]
     obtain ⟨u15w, hu15w⟩ : ∃ V, u12w.alloc (.cells z25 201) = V := ⟨_, rfl⟩
     rw [hu15w] at s15 q15 t5_15
     rw [hu15w]
     clear hu15w
     refine nextS 3 (by kernel_rfl) (by rfl) (fun o ho K hK => ?_)
     simp only [gT, gS, gZ, sI] at ho; subst ho
     go_simp
     (go_at_call 131; (with_reducible refine (CB.out _).mono ?_); rintro e u16w ⟨rfl, b16⟩)
     have s16 : Below w0.heap.size w0 u16w := below_up s15 s15.size b16
     have t4_16 := Shp.tn_on q15 b16
     have t5_16 := Shp.tn_on t5_15 b16
     refine hK.out _ _ s16 (fun _ => ?_)
     clear hK K
     try simp only [Act.put, iT, iZ, iS]
     have t6 : Shp.tn 25 (u16w.setRow (u12w.heap.size) (kS.v a)) (u1w.heap.size) = true := Shp.tn_setRow (u12w.heap.size) (kS.v_size a) t5_16
     refine nextS 6 (by kernel_rfl) (by rfl) (fun o ho K hK => ?_)
     simp only [gT, gS, gZ, sI] at ho; subst ho
     go_simp
     have s6 : Below w0.heap.size w0 (u16w.setRow (u12w.heap.size) (kS.v a)) := below_setRow s16 s12.size _
     refine hK.out _ _ s6 (fun _ => ?_)
     clear hK K
     try simp only [Act.put, iT, iZ, iS]
     refine nextS 7 (by kernel_rfl) (by rfl) (fun o ho K hK => ?_)
     simp only [gT, gS, gZ, sI] at ho; subst ho
     go_simp
     have s7 : Below w0.heap.size w0 ((u16w.setRow (u12w.heap.size) (kS.v a)).setRow (u1w.heap.size) (kS.v b)) := below_setRow s6 s1.size _
     refine hK.out _ _ s7 (fun _ => ?_)
     clear hK K
     try simp only [Act.put, iT, iZ, iS]
     refine wpAnyH_done (by kernel_rfl) ?_ _
     refine NoPanic.normal ?_
     have RB := Shp.rd_set (S := kS) (u16w.setRow (u12w.heap.size) (kS.v a)) (u1w.heap.size) b t6
     have RA : kS.rd ((u16w.setRow (u12w.heap.size) (kS.v a)).setRow (u1w.heap.size) (kS.v b)) ⟨u12w.heap.size, 0, none⟩ = some a := by rw [Shp.rd_far _ _ _ _ ne]; exact Shp.rd_set (S := kS) _ _ _ t4_16
     go_wp2_with fail
     go_meet
     exact ⟨_, _, rfl, rfl, RA, RB, s7⟩
  ·simp only [gT, gS, gZ, sI] at ho; subst ho
   go_simp
   have s17 : Below w0.heap.size w0 (wd.alloc (.cells z25 201)) := sd.alloc sd.size _
   have q17 : Shp.tn 25 (wd.alloc (.cells z25 201)) wd.heap.size = true := Shp.tn_of (Blk.new wd _ _) rfl
   refine hK.out _ _ s17 (fun _ => ?_)
   clear hK K
   try simp only [Act.put, iT, iZ, iS]
   obtain ⟨u17w, hu17w⟩ : ∃ V, wd.alloc (.cells z25 201) = V := ⟨_, rfl⟩
   rw [hu17w] at s17 q17
   rw [hu17w]
   clear hu17w
   refine forkS 1 5 (by kernel_rfl) (by rfl) (by rfl) (fun o ho K hK => ?_) (fun o ho K hK => ?_)
   ·simp only [gT, gS, gZ, sI] at ho; subst ho
    go_simp
    (go_at_call 131; (with_reducible refine (CA.out _).mono ?_); rintro e u18w ⟨rfl, b18⟩)
    have s18 : Below w0.heap.size w0 u18w := below_up s17 s17.size b18
    have t4_18 := Shp.tn_on q17 b18
    refine hK.out _ _ s18 (fun _ => ?_)
    clear hK K
    try simp only [Act.put, iT, iZ, iS]
    refine forkS 3 5 (by kernel_rfl) (by rfl) (by rfl) (fun o ho K hK => ?_) (fun o ho K hK => ?_)
    ·simp only [gT, gS, gZ, sI] at ho; subst ho
     go_simp
     (go_at_call 131; (with_reducible refine (CB.out _).mono ?_); rintro e u19w ⟨rfl, b19⟩)
     have s19 : Below w0.heap.size w0 u19w := below_up s18 s18.size b19
     have t4_19 := Shp.tn_on t4_18 b19
     refine hK.out _ _ s19 (fun _ => ?_)
     clear hK K
     try simp only [Act.put, iT, iZ, iS]
     refine nextS 5 (by kernel_rfl) (by rfl) (fun o ho K hK => ?_)
     simp only [gT, gS, gZ, sI] at ho; subst ho
     go_simp
     have s20 : Below w0.heap.size w0 (u19w.alloc (.cells z25 201)) := s19.alloc s19.size _
     have q20 : Shp.tn 25 (u19w.alloc (.cells z25 201)) u19w.heap.size = true := Shp.tn_of (Blk.new u19w _ _) rfl
     have t4_20 := Shp.tn_on t4_19 (below_alloc_ u19w (.cells z25 201))
     have ne : wd.heap.size ≠ u19w.heap.size := Nat.ne_of_lt (Shp.tn_lt t4_19)
     refine hK.out _ _ s20 (fun _ => ?_)
     clear hK K
     try simp only [Act.put, iT, iZ, iS]
     obtain ⟨u20w, hu20w⟩ : ∃ V, u19w.alloc (.cells z25 201) = V := ⟨_, rfl⟩
     rw [hu20w] at s20 q20 t4_20
     rw [hu20w]
     clear hu20w
     have t6 : Shp.tn 25 (u20w.setRow (wd.heap.size) (kS.v a)) (u19w.heap.size) = true := Shp.tn_setRow (wd.heap.size) (kS.v_size a) q20
     refine nextS 6 (by kernel_rfl) (by rfl) (fun o ho K hK => ?_)
     simp only [gT, gS, gZ, sI] at ho; subst ho
     go_simp
     have s6 : Below w0.heap.size w0 (u20w.setRow (wd.heap.size) (kS.v a)) := below_setRow s20 sd.size _
     refine hK.out _ _ s6 (fun _ => ?_)
     clear hK K
     try simp only [Act.put, iT, iZ, iS]
     refine nextS 7 (by kernel_rfl) (by rfl) (fun o ho K hK => ?_)
     simp only [gT, gS, gZ, sI] at ho; subst ho
     go_simp
     have s7 : Below w0.heap.size w0 ((u20w.setRow (wd.heap.size) (kS.v a)).setRow (u19w.heap.size) (kS.v b)) := below_setRow s6 s19.size _
     refine hK.out _ _ s7 (fun _ => ?_)
     clear hK K
     try simp only [Act.put, iT, iZ, iS]
     refine wpAnyH_done (by kernel_rfl) ?_ _
     refine NoPanic.normal ?_
     have RB := Shp.rd_set (S := kS) (u20w.setRow (wd.heap.size) (kS.v a)) (u19w.heap.size) b t6
     have RA : kS.rd ((u20w.setRow (wd.heap.size) (kS.v a)).setRow (u19w.heap.size) (kS.v b)) ⟨wd.heap.size, 0, none⟩ = some a := by rw [Shp.rd_far _ _ _ _ ne]; exact Shp.rd_set (S := kS) _ _ _ t4_20
     go_wp2_with fail
     go_meet
     exact ⟨_, _, rfl, rfl, RA, RB, s7⟩
    ·simp only [gT, gS, gZ, sI] at ho; subst ho
     go_simp
     have s21 : Below w0.heap.size w0 (u18w.alloc (.cells z25 201)) := s18.alloc s18.size _
     have q21 : Shp.tn 25 (u18w.alloc (.cells z25 201)) u18w.heap.size = true := Shp.tn_of (Blk.new u18w _ _) rfl
     have t4_21 := Shp.tn_on t4_18 (below_alloc_ u18w (.cells z25 201))
     have ne : wd.heap.size ≠ u18w.heap.size := Nat.ne_of_lt (Shp.tn_lt t4_18)
     refine hK.out _ _ s21 (fun _ => ?_)
     clear hK K
     try simp only [Act.put, iT, iZ, iS]
     obtain ⟨u21w, hu21w⟩ : ∃ V, u18w.alloc (.cells z25 201) = V := ⟨_, rfl⟩
     rw [hu21w] at s21 q21 t4_21
     rw [hu21w]
     clear hu21w
     refine nextS 3 (by kernel_rfl) (by rfl) (fun o ho K hK => ?_)
     simp only [gT, gS, gZ, sI] at ho; subst ho
     go_simp
     (go_at_call 131; (with_reducible refine (CB.out _).mono ?_); rintro e u22w ⟨rfl, b22⟩)
     have s22 : Below w0.heap.size w0 u22w := below_up s21 s21.size b22
     have t4_22 := Shp.tn_on t4_21 b22
     have t5_22 := Shp.tn_on q21 b22
     refine hK.out _ _ s22 (fun _ => ?_)
     clear hK K
     try simp only [Act.put, iT, iZ, iS]
     have t6 : Shp.tn 25 (u22w.setRow (wd.heap.size) (kS.v a)) (u18w.heap.size) = true := Shp.tn_setRow (wd.heap.size) (kS.v_size a) t5_22
     refine nextS 6 (by kernel_rfl) (by rfl) (fun o ho K hK => ?_)
     simp only [gT, gS, gZ, sI] at ho; subst ho
     go_simp
     have s6 : Below w0.heap.size w0 (u22w.setRow (wd.heap.size) (kS.v a)) := below_setRow s22 sd.size _
     refine hK.out _ _ s6 (fun _ => ?_)
     clear hK K
     try simp only [Act.put, iT, iZ, iS]
     refine nextS 7 (by kernel_rfl) (by rfl) (fun o ho K hK => ?_)
     simp only [gT, gS, gZ, sI] at ho; subst ho
     go_simp
     have s7 : Below w0.heap.size w0 ((u22w.setRow (wd.heap.size) (kS.v a)).setRow (u18w.heap.size) (kS.v b)) := below_setRow s6 s18.size _
     refine hK.out _ _ s7 (fun _ => ?_)
     clear hK K
     try simp only [Act.put, iT, iZ, iS]
     refine wpAnyH_done (by kernel_rfl) ?_ _
     refine NoPanic.normal ?_
     have RB := Shp.rd_set (S := kS) (u22w.setRow (wd.heap.size) (kS.v a)) (u18w.heap.size) b t6
     have RA : kS.rd ((u22w.setRow (wd.heap.size) (kS.v a)).setRow (u18w.heap.size) (kS.v b)) ⟨wd.heap.size, 0, none⟩ = some a := by rw [Shp.rd_far _ _ _ _ ne]; exact Shp.rd_set (S := kS) _ _ _ t4_22
     go_wp2_with fail
     go_meet
     exact ⟨_, _, rfl, rfl, RA, RB, s7⟩
   ·simp only [gT, gS, gZ, sI] at ho; subst ho
    go_simp
    have s23 : Below w0.heap.size w0 (u17w.alloc (.cells z25 201)) := s17.alloc s17.size _
    have q23 : Shp.tn 25 (u17w.alloc (.cells z25 201)) u17w.heap.size = true := Shp.tn_of (Blk.new u17w _ _) rfl
    have t4_23 := Shp.tn_on q17 (below_alloc_ u17w (.cells z25 201))
    have ne : wd.heap.size ≠ u17w.heap.size := Nat.ne_of_lt (Shp.tn_lt q17)
    refine hK.out _ _ s23 (fun _ => ?_)
    clear hK K
    try simp only [Act.put, iT, iZ, iS]
    obtain ⟨u23w, hu23w⟩ : ∃ V, u17w.alloc (.cells z25 201) = V := ⟨_, rfl⟩
    rw [hu23w] at s23 q23 t4_23
    rw [hu23w]
    clear hu23w
    refine nextS 1 (by kernel_rfl) (by rfl) (fun o ho K hK => ?_)
    simp only [gT, gS, gZ, sI] at ho; subst ho
    go_simp
    (go_at_call 131; (with_reducible refine (CA.out _).mono ?_); rintro e u24w ⟨rfl, b24⟩)
    have s24 : Below w0.heap.size w0 u24w := below_up s23 s23.size b24
    have t4_24 := Shp.tn_on t4_23 b24
    have t5_24 := Shp.tn_on q23 b24
    refine hK.out _ _ s24 (fun _ => ?_)
    clear hK K
    try simp only [Act.put, iT, iZ, iS]
    refine nextS 3 (by kernel_rfl) (by rfl) (fun o ho K hK => ?_)
    simp only [gT, gS, gZ, sI] at ho; subst ho
    go_simp
    (go_at_call 131; (with_reducible refine (CB.out _).mono ?_); rintro e u25w ⟨rfl, b25⟩)
    have s25 : Below w0.heap.size w0 u25w := below_up s24 s24.size b25
    have t4_25 := Shp.tn_on t4_24 b25
    have t5_25 := Shp.tn_on t5_24 b25
    refine hK.out _ _ s25 (fun _ => ?_)
    clear hK K
    try simp only [Act.put, iT, iZ, iS]
    have t6 : Shp.tn 25 (u25w.setRow (wd.heap.size) (kS.v a)) (u17w.heap.size) = true := Shp.tn_setRow (wd.heap.size) (kS.v_size a) t5_25
    refine nextS 6 (by kernel_rfl) (by rfl) (fun o ho K hK => ?_)
    simp only [gT, gS, gZ, sI] at ho; subst ho
    go_simp
    have s6 : Below w0.heap.size w0 (u25w.setRow (wd.heap.size) (kS.v a)) := below_setRow s25 sd.size _
    refine hK.out _ _ s6 (fun _ => ?_)
    clear hK K
    try simp only [Act.put, iT, iZ, iS]
    refine nextS 7 (by kernel_rfl) (by rfl) (fun o ho K hK => ?_)
    simp only [gT, gS, gZ, sI] at ho; subst ho
    go_simp
    have s7 : Below w0.heap.size w0 ((u25w.setRow (wd.heap.size) (kS.v a)).setRow (u17w.heap.size) (kS.v b)) := below_setRow s6 s17.size _
    refine hK.out _ _ s7 (fun _ => ?_)
    clear hK K
    try simp only [Act.put, iT, iZ, iS]
    refine wpAnyH_done (by kernel_rfl) ?_ _
    refine NoPanic.normal ?_
    have RB := Shp.rd_set (S := kS) (u25w.setRow (wd.heap.size) (kS.v a)) (u17w.heap.size) b t6
    have RA : kS.rd ((u25w.setRow (wd.heap.size) (kS.v a)).setRow (u17w.heap.size) (kS.v b)) ⟨wd.heap.size, 0, none⟩ = some a := by rw [Shp.rd_far _ _ _ _ ne]; exact Shp.rd_set (S := kS) _ _ _ t4_25
    go_wp2_with fail
    go_meet
    exact ⟨_, _, rfl, rfl, RA, RB, s7⟩
  ·simp only [gT, gS, gZ, sI] at ho; subst ho
   go_simp
   have s26 : Below w0.heap.size w0 (wd.alloc (.cells z25 201)) := sd.alloc sd.size _
   have q26 : Shp.tn 25 (wd.alloc (.cells z25 201)) wd.heap.size = true := Shp.tn_of (Blk.new wd _ _) rfl
   refine hK.out _ _ s26 (fun _ => ?_)
   clear hK K
   try simp only [Act.put, iT, iZ, iS]
   obtain ⟨u26w, hu26w⟩ : ∃ V, wd.alloc (.cells z25 201) = V := ⟨_, rfl⟩
   rw [hu26w] at s26 q26
   rw [hu26w]
   clear hu26w
   refine forkS 1 4 (by kernel_rfl) (by rfl) (by rfl) (fun o ho K hK => ?_) (fun o ho K hK => ?_)
   ·simp only [gT, gS, gZ, sI] at ho; subst ho
    go_simp
    (go_at_call 131; (with_reducible refine (CA.out _).mono ?_); rintro e u27w ⟨rfl, b27⟩)
    have s27 : Below w0.heap.size w0 u27w := below_up s26 s26.size b27
    have t5_27 := Shp.tn_on q26 b27
    refine hK.out _ _ s27 (fun _ => ?_)
    clear hK K
    try simp only [Act.put, iT, iZ, iS]
    refine forkS 3 4 (by kernel_rfl) (by rfl) (by rfl) (fun o ho K hK => ?_) (fun o ho K hK => ?_)
    ·simp only [gT, gS, gZ, sI] at ho; subst ho
     go_simp
     (go_at_call 131; (with_reducible refine (CB.out _).mono ?_); rintro e u28w ⟨rfl, b28⟩)
     have s28 : Below w0.heap.size w0 u28w := below_up s27 s27.size b28
     have t5_28 := Shp.tn_on t5_27 b28
     refine hK.out _ _ s28 (fun _ => ?_)
     clear hK K
     try simp only [Act.put, iT, iZ, iS]
     refine nextS 4 (by kernel_rfl) (by rfl) (fun o ho K hK => ?_)
     simp only [gT, gS, gZ, sI] at ho; subst ho
     go_simp
     have s29 : Below w0.heap.size w0 (u28w.alloc (.cells z25 201)) := s28.alloc s28.size _
     have q29 : Shp.tn 25 (u28w.alloc (.cells z25 201)) u28w.heap.size = true := Shp.tn_of (Blk.new u28w _ _) rfl
     have t5_29 := Shp.tn_on t5_28 (below_alloc_ u28w (.cells z25 201))
     have ne : u28w.heap.size ≠ wd.heap.size := Nat.ne_of_gt (Shp.tn_lt t5_28)
     refine hK.out _ _ s29 (fun _ => ?_)
     clear hK K
     try simp only [Act.put, iT, iZ, iS]
     obtain ⟨u29w, hu29w⟩ : ∃ V, u28w.alloc (.cells z25 201) = V := ⟨_, rfl⟩
     rw [hu29w] at s29 q29 t5_29
     rw [hu29w]
     clear hu29w
     have t6 : Shp.tn 25 (u29w.setRow (u28w.heap.size) (kS.v a)) (wd.heap.size) = true := Shp.tn_setRow (u28w.heap.size) (kS.v_size a) t5_29
     refine nextS 6 (by kernel_rfl) (by rfl) (fun o ho K hK => ?_)
     simp only [gT, gS, gZ, sI] at ho; subst ho
     go_simp
     have s6 : Below w0.heap.size w0 (u29w.setRow (u28w.heap.size) (kS.v a)) := below_setRow s29 s28.size _
     refine hK.out _ _ s6 (fun _ => ?_)
     clear hK K
     try simp only [Act.put, iT, iZ, iS]
     refine nextS 7 (by kernel_rfl) (by rfl) (fun o ho K hK => ?_)
     simp only [gT, gS, gZ, sI] at ho; subst ho
     go_simp
     have s7 : Below w0.heap.size w0 ((u29w.setRow (u28w.heap.size) (kS.v a)).setRow (wd.heap.size) (kS.v b)) := below_setRow s6 sd.size _
     refine hK.out _ _ s7 (fun _ => ?_)
     clear hK K
     try simp only [Act.put, iT, iZ, iS]
     refine wpAnyH_done (by kernel_rfl) ?_ _
     refine NoPanic.normal ?_
     have RB := Shp.rd_set (S := kS) (u29w.setRow (u28w.heap.size) (kS.v a)) (wd.heap.size) b t6
     have RA : kS.rd ((u29w.setRow (u28w.heap.size) (kS.v a)).setRow (wd.heap.size) (kS.v b)) ⟨u28w.heap.size, 0, none⟩ = some a := by rw [Shp.rd_far _ _ _ _ ne]; exact Shp.rd_set (S := kS) _ _ _ q29
     go_wp2_with fail
     go_meet
     exact ⟨_, _, rfl, rfl, RA, RB, s7⟩
    ·simp only [gT, gS, gZ, sI] at ho; subst ho
     go_simp
     have s30 : Below w0.heap.size w0 (u27w.alloc (.cells z25 201)) := s27.alloc s27.size _
     have q30 : Shp.tn 25 (u27w.alloc (.cells z25 201)) u27w.heap.size = true := Shp.tn_of (Blk.new u27w _ _) rfl
     have t5_30 := Shp.tn_on t5_27 (below_alloc_ u27w (.cells z25 201))
     have ne : u27w.heap.size ≠ wd.heap.size := Nat.ne_of_gt (Shp.tn_lt t5_27)
     refine hK.out _ _ s30 (fun _ => ?_)
     clear hK K
     try simp only [Act.put, iT, iZ, iS]
     obtain ⟨u30w, hu30w⟩ : ∃ V, u27w.alloc (.cells z25 201) = V := ⟨_, rfl⟩
     rw [hu30w] at s30 q30 t5_30
     rw [hu30w]
     clear hu30w
     refine nextS 3 (by kernel_rfl) (by rfl) (fun o ho K hK => ?_)
     simp only [gT, gS, gZ, sI] at ho; subst ho
     go_simp
     (go_at_call 131; (with_reducible refine (CB.out _).mono ?_); rintro e u31w ⟨rfl, b31⟩)
     have s31 : Below w0.heap.size w0 u31w := below_up s30 s30.size b31
     have t4_31 := Shp.tn_on q30 b31
     have t5_31 := Shp.tn_on t5_30 b31
     refine hK.out _ _ s31 (fun _ => ?_)
     clear hK K
     try simp only [Act.put, iT, iZ, iS]
     have t6 : Shp.tn 25 (u31w.setRow (u27w.heap.size) (kS.v a)) (wd.heap.size) = true := Shp.tn_setRow (u27w.heap.size) (kS.v_size a) t5_31
     refine nextS 6 (by kernel_rfl) (by rfl) (fun o ho K hK => ?_)
     simp only [gT, gS, gZ, sI] at ho; subst ho
     go_simp
     have s6 : Below w0.heap.size w0 (u31w.setRow (u27w.heap.size) (kS.v a)) := below_setRow s31 s27.size _
     refine hK.out _ _ s6 (fun _ => ?_)
     clear hK K
     try simp only [Act.put, iT, iZ, iS]
     refine nextS 7 (by kernel_rfl) (by rfl) (fun o ho K hK => ?_)
     simp only [gT, gS, gZ, sI] at ho; subst ho
     go_simp
     have s7 : Below w0.heap.size w0 ((u31w.setRow (u27w.heap.size) (kS.v a)).setRow (wd.heap.size) (kS.v b)) := below_setRow s6 sd.size _
     refine hK.out _ _ s7 (fun _ => ?_)
     clear hK K
     try simp only [Act.put, iT, iZ, iS]
     refine wpAnyH_done (by kernel_rfl) ?_ _
     refine NoPanic.normal ?_
     have RB := Shp.rd_set (S := kS) (u31w.setRow (u27w.heap.size) (kS.v a)) (wd.heap.size) b t6
     have RA : kS.rd ((u31w.setRow (u27w.heap.size) (kS.v a)).setRow (wd.heap.size) (kS.v b)) ⟨u27w.heap.size, 0, none⟩ = some a := by rw [Shp.rd_far _ _ _ _ ne]; exact Shp.rd_set (S := kS) _ _ _ t4_31
     go_wp2_with fail
     go_meet
     exact ⟨_, _, rfl, rfl, RA, RB, s7⟩
   ·simp only [gT, gS, gZ, sI] at ho; subst ho
    go_simp
    have s32 : Below w0.heap.size w0 (u26w.alloc (.cells z25 201)) := s26.alloc s26.size _
    have q32 : Shp.tn 25 (u26w.alloc (.cells z25 201)) u26w.heap.size = true := Shp.tn_of (Blk.new u26w _ _) rfl
    have t5_32 := Shp.tn_on q26 (below_alloc_ u26w (.cells z25 201))
    have ne : u26w.heap.size ≠ wd.heap.size := Nat.ne_of_gt (Shp.tn_lt q26)
    refine hK.out _ _ s32 (fun _ => ?_)
    clear hK K
    try simp only [Act.put, iT, iZ, iS]
    obtain ⟨u32w, hu32w⟩ : ∃ V, u26w.alloc (.cells z25 201) = V := ⟨_, rfl⟩
    rw [hu32w] at s32 q32 t5_32
    rw [hu32w]
    clear hu32w
    refine nextS 1 (by kernel_rfl) (by rfl) (fun o ho K hK => ?_)
    simp only [gT, gS, gZ, sI] at ho; subst ho
    go_simp
    (go_at_call 131; (with_reducible refine (CA.out _).mono ?_); rintro e u33w ⟨rfl, b33⟩)
    have s33 : Below w0.heap.size w0 u33w := below_up s32 s32.size b33
    have t4_33 := Shp.tn_on q32 b33
    have t5_33 := Shp.tn_on t5_32 b33
    refine hK.out _ _ s33 (fun _ => ?_)
    clear hK K
    try simp only [Act.put, iT, iZ, iS]
    refine nextS 3 (by kernel_rfl) (by rfl) (fun o ho K hK => ?_)
    simp only [gT, gS, gZ, sI] at ho; subst ho
    go_simp
    (go_at_call 131; (with_reducible refine (CB.out _).mono ?_); rintro e u34w ⟨rfl, b34⟩)
    have s34 : Below w0.heap.size w0 u34w := below_up s33 s33.size b34
    have t4_34 := Shp.tn_on t4_33 b34
    have t5_34 := Shp.tn_on t5_33 b34
    refine hK.out _ _ s34 (fun _ => ?_)
    clear hK K
    try simp only [Act.put, iT, iZ, iS]
    have t6 : Shp.tn 25 (u34w.setRow (u26w.heap.size) (kS.v a)) (wd.heap.size) = true := Shp.tn_setRow (u26w.heap.size) (kS.v_size a) t5_34
    refine nextS 6 (by kernel_rfl) (by rfl) (fun o ho K hK => ?_)
    simp only [gT, gS, gZ, sI] at ho; subst ho
    go_simp
    have s6 : Below w0.heap.size w0 (u34w.setRow (u26w.heap.size) (kS.v a)) := below_setRow s34 s26.size _
    refine hK.out _ _ s6 (fun _ => ?_)
    clear hK K
    try simp only [Act.put, iT, iZ, iS]
    refine nextS 7 (by kernel_rfl) (by rfl) (fun o ho K hK => ?_)
    simp only [gT, gS, gZ, sI] at ho; subst ho
    go_simp
    have s7 : Below w0.heap.size w0 ((u34w.setRow (u26w.heap.size) (kS.v a)).setRow (wd.heap.size) (kS.v b)) := below_setRow s6 sd.size _
    refine hK.out _ _ s7 (fun _ => ?_)
    clear hK K
    try simp only [Act.put, iT, iZ, iS]
    refine wpAnyH_done (by kernel_rfl) ?_ _
    refine NoPanic.normal ?_
    have RB := Shp.rd_set (S := kS) (u34w.setRow (u26w.heap.size) (kS.v a)) (wd.heap.size) b t6
    have RA : kS.rd ((u34w.setRow (u26w.heap.size) (kS.v a)).setRow (wd.heap.size) (kS.v b)) ⟨u26w.heap.size, 0, none⟩ = some a := by rw [Shp.rd_far _ _ _ _ ne]; exact Shp.rd_set (S := kS) _ _ _ t4_34
    go_wp2_with fail
    go_meet
    exact ⟨_, _, rfl, rfl, RA, RB, s7⟩
 case rest =>
  obtain ⟨k5, k6, rfl, rfl, RA, RB, b1⟩ := hcut
  have bF := below_up b0 b0.size b1
  clear CA CB f0 f1 b1 b0
  go_wp2
  go_loopw [7, 12] (fun _ i wr => ∃ j : Nat, j ≤ 25 ∧ i = .int .i64 j ∧ Kept (∀ i, i < j → a.l.getD i 0 = b.l.getD i 0) ∧ kS.rd wr ⟨k5, 0, none⟩ = some a ∧ kS.rd wr ⟨k6, 0, none⟩ = some b ∧ Below w.heap.size w wr) (fun _ i _ => 25 - (intOf i).toNat)
  case atStart => exact ⟨0, Nat.zero_le _, rfl, ⟨fun i h => by omega⟩, RA, RB, bF⟩
  case round =>
   obtain ⟨j, hj, rfl, HL, RA, RB, bF⟩ := hrel
   by_cases hlt : j < 25
   ·have cx := kbyte RA hlt
    have cy := kbyte RB hlt
    have hx := D.byte_lt a j
    have hy := D.byte_lt b j
    have HN := Lib.hid (fun h => D.par_byte hlt HL.out h)
    have HM : Kept (a.l.getD j 0 = b.l.getD j 0 → ∀ i, i < j + 1 → a.l.getD i 0 = b.l.getD i 0) := ⟨fun e i hi => by
     by_cases c : i = j
     ·subst c; exact e
     ·exact HL.out i (by omega)⟩
    obtain ⟨x, ex⟩ : ∃ x, a.l.getD j 0 = x := ⟨_, rfl⟩
    obtain ⟨y, ey⟩ : ∃ y, b.l.getD j 0 = y := ⟨_, rfl⟩
    rw [ex] at cx hx HN HM
    rw [ey] at cy hy HN HM
    clear ex ey
    have i1 : (0 : Int) ≤ (j : Int) := by omega
    have i2 : (j : Int) < 25 := by omega
    by_cases e : x = y
    ·have HK : Kept (∀ i, i < j + 1 → a.l.getD i 0 = b.l.getD i 0) := ⟨HM.out e⟩
     subst e
     have RA' := fun q => (Shp.rd_drewN (S := kS) wr ⟨k5, 0, none⟩ q).trans RA
     have RB' := fun q => (Shp.rd_drewN (S := kS) wr ⟨k6, 0, none⟩ q).trans RB
     have bF' := fun q => below_drewN bF q
     clear HL HN HM HR RA RB bF
     go_wp2_with fail
     go_quiet (fail)
     go_wp2
     go_roundw
     case rel => exact ⟨j + 1, by omega, by go_num, HK, RA' _, RB' _, bF' _⟩
     case measure => simp [intOf]; omega
    ·obtain ⟨p1, p2, p3⟩ := HN.out e
     have hc := D.xor_lt hx hy
     have hxn := xor_num x y hx hy
     obtain ⟨c, ec⟩ : ∃ c, x ^^^ y = c := ⟨_, rfl⟩
     rw [ec] at p1 p2 p3 hc hxn
     obtain ⟨l, el⟩ : ∃ l, Lib.bitLen c = l := ⟨_, rfl⟩
     have HQ := Lib.hid (fun (w : World) (q n : Nat) => quiet_same2 (lz_any c hc (w.drewN (q + n))))
     rw [el] at HQ p1 p2 p3
     clear el ec
     have HP : Kept (((r : Nat) : Int) = 8 * (j : Int) + (8 - (l : Int))) := ⟨by rw [← HR.out]; omega⟩
     have q2 : (1 : Int) ≤ (l : Int) := by omega
     have q3 : (l : Int) ≤ 8 := by omega
     clear p1 p2 p3
     have hne : (((x : Int) == (y : Int)) = false) := by rw [beq_eq_false_iff_ne]; omega
     have hne2 : (((x : Int) != (y : Int)) = true) := by rw [bne_iff_ne]; omega
     have bF' := fun q p => below_drewN (below_drewN bF q) p
     clear HL HR HN HM RA RB
     go_wp2_with fail
     go_quiet (fail)
     go_wp2_with fail
     go_quiet ((go_at_call 163; exact HQ.out _ _ _))
     go_wp2
     go_ret
     exact ⟨by rw [HP.out]; rfl, by first | exact bF' _ _ | (rw [← World.drewN_drewN]; exact bF' _ _)⟩
   ·obtain rfl : j = 25 := by omega
    have HN : Kept (((r : Nat) : Int) = 200) := ⟨by rw [← HR.out, Cr.par_200.2 (D.bytes_eq HL.out)]; rfl⟩
    clear HL HR RA RB
    go_wp2
    go_ret
    exact ⟨by rw [HN.out]; rfl, bF⟩
end Go.Proofs.YtjlaffgbmcpldaaGreatDoor
namespace Go.Proofs.YtjlaffgbmcpldaaGreatDoor
open Go.RowKit
attribute [local go_sem ↓] Go.wp_at_zero Go.wp_at_succ ld_k lv_k st_k eq_k ne_k bd_k ld_b lv_b st_b eq_b ne_b bd_25 ld_r lv_r st_rk eq_rk ne_rk bd_r ld_p lv_p st_px bd_p Nm.ld_a Nm.ld_n Nm.st_a Nm.st_n Nm.eq_a Nm.eq_n Nm.ne_a Nm.ne_n Nm.lv_a Nm.lv_n ld_a ld_n st_a st_n eq_a eq_n ne_a ne_n lv_a lv_n ld_l lv_l st_l bd_l bd_n bs_k
attribute [local go_sem] run_ldk run_lvk run_stk run_eqk run_nek run_bdk_z run_ldb run_lvb run_stb run_eqb run_neb run_ldr run_lvr run_strk run_eqrk run_nerk run_bdr_z run_ldp run_lvp run_stpx Nm.run_ld_a Nm.run_ld_n Nm.run_st_n Nm.run_eq_a Nm.run_eq_n Nm.run_ne_a Nm.run_ne_n Nm.run_lv_a Nm.run_lv_n Nm.rd_new Nm.rd_old Nm.rd_drew Nm.rd_drewN run_ld_a run_ld_n run_sw_a run_sw_n run_eq_a run_eq_n run_ne_a run_ne_n run_lv_a run_lv_n st_z ne_z eq_z rd_new rd_old rd_drew rd_drewN Shp.rd_new Shp.rd_old Shp.rd_drew Shp.rd_drewN Shp.rd_set Shp.tn_new Shp.tn_old Shp.tn_drew Shp.tn_drewN tn_new tn_old tn_drew tn_drewN rd_set setRow_alloc run_stn3 run_stt15 run_lvl run_ldl run_stl run_bdl run_bdn run_bdn0 run_bsk
theorem top_any (g : Nat) (w : World) : Calls Tryz.prog 134 #[.pointer (some ⟨g, 0, none⟩)] w fun e w' => e = .returned (.pointer (some ⟨g, 0, none⟩)) ∧ w = w' := by
 go_enter Tryz.func134, Tryz.ntmps134
 go_wp2
 go_ret
 exact ⟨rfl, rfl⟩
theorem passed_any (p : Option Addr) (k : D.Ky) (d : Int) (w : World) : Calls Tryz.prog 133 #[.pointer p, .agg (kS.v k), .int .i64 d] w fun e w' => e = .returned (.func (.func 165) #[] #[.pointer (some ⟨w.heap.size + 1, 0, none⟩), .pointer (some ⟨w.heap.size, 0, none⟩), .pointer (some ⟨w.heap.size + 2, 0, none⟩)]) ∧
  w' = ((w.alloc (.cells #[.pointer p] 125)).alloc (.cells (kS.v k) 39)).alloc (.cells #[.int .i64 d] 3) := by
 go_enter Tryz.func133, Tryz.ntmps133
 go_wp2
 go_ret
 exact ⟨by simp, rfl⟩
end Go.Proofs.YtjlaffgbmcpldaaGreatDoor
