/-
  NewestIn.
  The library's texts in this program are those that the library's contracts were proved of.
  Which bytes are letters and digits; which texts are languages, scripts and regions: the program's; the kinds of the document's.
-/
import Derived.Test.YteiikacgcfidmaaGreatDoorG32
import Derived.Shelf.Strings.Builder1
import Derived.Shelf.Strings.Builder2
import Derived.Shelf.Strings.OnBuilder
import Derived.Shelf.Small.Utf8
import Derived.Shelf.Small.Bits
import Derived.Shelf.Utf8.RuneCount
import Derived.Shelf.Strconv.Atoi
import Derived.Shelf.Strconv.Itoa0
import Derived.Shelf.Strconv.Itoa1
import Derived.Shelf.LaysM
import Derived.Shelf.Strconv.Itoa2
import Derived.Shelf.Strconv.Itoa3
import Derived.Shelf.Strconv.AtoiErrFast
import Derived.Shelf.Strconv.ParseIntEmpty
import Derived.Shelf.Strconv.AtoiFail
import Derived.Shelf.Strconv.Clone
import Derived.Shelf.Strconv.SyntaxError
import Derived.Shelf.LaysC
import Derived.Shelf.Strconv.ToError
import Derived.Shelf.Strconv.Lower
import Derived.Shelf.Strconv.ParseUint10
import Derived.Shelf.Strconv.ParseUint10Empty
import Derived.Shelf.Strconv.ParseUint10Any
import Derived.Shelf.Strconv.ParseInt10
import Derived.Shelf.Strconv.AtoiLong
import Derived.Shelf.Strconv.AtoiInnerAll
import Derived.Shelf.Strconv.RangeError
import Derived.Shelf.Strconv.ToErrorRange
import Derived.Shelf.Strconv.AtoiAll
import Derived.Shelf.Strings.Search1
import Derived.Shelf.Strings.Search2
import Derived.Shelf.Strings.Search3
import Derived.Shelf.Strings.Count
import Derived.Shelf.Strings.Shaped
import Derived.Shelf.Strings.Split
import Derived.Shelf.Strings.SplitShaped
import Derived.Shelf.Unicode.Latin
import Derived.Shelf.Unicode.Decode
import Derived.Shelf.Strings.RuneCount
import Derived.Shelf.Strings.Explode
import Derived.Shelf.Unicode.DecodeSlow
import Derived.Shelf.Unicode.DecodeAny
import Derived.Shelf.Unicode.CaseLookup
import Derived.Shelf.Unicode.CaseConvert
import Derived.Shelf.Unicode.CaseTo
import Derived.Shelf.Unicode.CaseLaid
import Derived.Shelf.Bytes.SlIndexSmall
import Derived.Shelf.Bytes.SlIndexAt
import Derived.Shelf.Bytes.SlSearch0
import Derived.Shelf.Bytes.SlSearch1
import Derived.Shelf.Bytes.SlSearch2
import Derived.Shelf.Bytes.SlIndexWhole
import Derived.Shelf.Bytes.SlCut
import Derived.Shelf.Bytes.Small
import Derived.Shelf.Bytes.IndexByte
import Derived.Test.YteiikacgcfidmaaGreatDoorProg
import Derived.Test.YteiikacgcfidmaaGreatDoorRow
import Derived.Lib.ConvBytes
import Derived.Deep.RegionHeld3
import Derived.Deep.DrawnRows
import Derived.Laws.IdiomStrings
set_option linter.unusedVariables false
set_option linter.unusedSimpArgs false
set_option maxRecDepth 100000
namespace Go.Proofs.YteiikacgcfidmaaGreatDoor
open Go.RowKit
attribute [local go_sem ↓] Go.wp_at_zero Go.wp_at_succ ld_k lv_k st_k eq_k ne_k bd_k ld_b lv_b st_b eq_b ne_b bd_25 ld_r lv_r st_rk eq_rk ne_rk bd_r ld_p lv_p st_px bd_p Nm.ld_a Nm.ld_n Nm.st_a Nm.st_n Nm.eq_a Nm.eq_n Nm.ne_a Nm.ne_n Nm.lv_a Nm.lv_n ld_a ld_n st_a st_n eq_a eq_n ne_a ne_n lv_a lv_n ld_l lv_l st_l bd_l bd_n bs_k ld_v lv_v st_v ne_v bd_v bs_v ld_rh ld_d lv_rh lv_d st_r st_d ne_rh eq_rh ne_d bd_rh bd_d ld_x lv_x st_x bd_x bs_x ld_e lv_e st_e bd_e bs_e ne_e
attribute [local go_sem] run_ldk run_lvk run_stk run_eqk run_nek run_bdk_z run_ldb run_lvb run_stb run_eqb run_neb run_ldr run_lvr run_strk run_eqrk run_nerk run_bdr_z run_ldp run_lvp run_stpx Nm.run_ld_a Nm.run_ld_n Nm.run_st_n Nm.run_eq_a Nm.run_eq_n Nm.run_ne_a Nm.run_ne_n Nm.run_lv_a Nm.run_lv_n Nm.rd_new Nm.rd_old Nm.rd_drew Nm.rd_drewN run_ld_a run_ld_n run_sw_a run_sw_n run_eq_a run_eq_n run_ne_a run_ne_n run_lv_a run_lv_n st_z ne_z eq_z rd_new rd_old rd_drew rd_drewN Shp.rd_new Shp.rd_old Shp.rd_drew Shp.rd_drewN Shp.rd_set Shp.tn_new Shp.tn_old Shp.tn_drew Shp.tn_drewN tn_new tn_old tn_drew tn_drewN rd_set setRow_alloc run_stn3 run_stt15 run_lvl run_ldl run_stl run_bdl run_bdn run_bdn0 run_bsk Shp.rd_extk cell_ext run_ldv run_lvv run_stv run_nev run_bdv_z run_bdv_d run_bdv_r run_bsv1 run_bsv0 run_ldrh run_ldd run_lvrh run_lvd run_str run_std run_nerh run_eqrh run_ned run_bdr0 run_bdd0 run_bdr1 run_bdd1 run_bdd9 run_ldx run_lvx run_stx run_lde run_lve run_bde run_bse1 run_bdv_3 Shp.rd_extk cell_ext
def D.Sm.nmax (M : D.Sm) (l : List D.Ky) : Nat := l.foldl (fun m k => max m (D.nwt (M.f k))) 0
def D.Sm.newin (M : D.Sm) (x : D.Px) : Nat := M.nmax (M.keys x)
theorem D.Sm.nmax_snoc (M : D.Sm) (l : List D.Ky) (k : D.Ky) : M.nmax (l ++ [k]) = max (M.nmax l) (D.nwt (M.f k)) := by simp [D.Sm.nmax]
set_option maxHeartbeats 4000000 in
theorem snewin_any {base : Nat} {w : World} {p : Option Addr} {M : D.Sm} (hS : SO base w p M) (hl : M.last ≤ 1000) (hk : M.ks.length ≤ 1000) (x : D.Px) : Calls Tryz.prog 25 #[.pointer p, .agg (pS.v x)] w fun e w' => e = .returned (.int .u64 (M.newin x : Nat)) ∧ Below w.heap.size w w' := by
  have f0 := Shp.rd_new (S := pS) w w.heap.size 41 x rfl
  have b0 := below_alloc_ w (.cells (pS.v x) 41)
  obtain ⟨w0, hw0⟩ : ∃ w0, w.alloc (.cells (pS.v x) 41) = w0 := ⟨_, rfl⟩
  rw [hw0] at f0 b0
  have HS := Lib.hid (hS.on b0)
  have CK := Lib.hid (skeys_any (hS.on b0) x)
  have HN : Kept ((M.keys x).length ≤ 1000) := ⟨Nat.le_trans (List.length_filter_le _ _) hk⟩
  show Calls _ _ _ _ fun e w' => e = .returned (.int .u64 ((M.nmax (M.keys x) : Nat) : Int)) ∧ _
  obtain ⟨ks, hks⟩ : ∃ ks, M.keys x = ks := ⟨_, rfl⟩
  rw [hks] at CK HN ⊢
  clear hS hk hks
  go_enter Tryz.func25, Tryz.ntmps25
  go_wp2_with fail
  try rw [hw0]
  clear hw0
  go_wp2_with (go_at_call 27; (with_reducible refine CK.out.mono ?_); rintro e w1 ⟨A, c, rfl, hA, b1⟩)
  have hR := Lib.hid (ow_srow (S := kS) hA)
  have hS1 := Lib.hid (HS.out.on b1)
  have z1 := Lib.hid (below_up b0 b0.size b1)
  clear hA HS b1
  go_loopw [5, 12] (fun s i wr => ∃ j : Nat, j ≤ ks.length ∧ i = .int .i64 j ∧ s = .int .u64 (M.nmax (ks.take j) : Nat) ∧ Hid (Below w1.heap.size w1 wr)) (fun _ i _ => ks.length - (intOf i).toNat)
  case atStart => exact ⟨0, Nat.zero_le _, rfl, rfl, Lib.hid (Below.refl _ _)⟩
  case round =>
    obtain ⟨j, hj, rfl, rfl, hb⟩ := hrel
    by_cases hlt : j < ks.length
    · obtain ⟨k, hk⟩ : ∃ k, ks[j]? = some k := ⟨_, List.getElem?_eq_getElem hlt⟩
      obtain ⟨ad, hAe, hal, hrd⟩ := (hR.out.on hb.out).rd hk
      have hrd : kS.rd wr (ad.add (j * 25)) = some k := hrd
      subst hAe
      have i0 : (0 : Int) ≤ (j : Int) := by omega
      have i1 : (j : Int) < (ks.length : Int) := by omega
      have hkl : ks.length ≤ 1000 := HN.out
      have hT := Lib.hid (stk_next hk)
      have CO := Lib.hid (fun W (hW : Below w1.heap.size w1 W) => snewest_any (hS1.out.on hW) hl k)
      obtain ⟨m, hm⟩ : ∃ m, M.nmax (ks.take j) = m := ⟨_, rfl⟩
      obtain ⟨q, hq⟩ : ∃ q, D.nwt (M.f k) = q := ⟨_, rfl⟩
      rw [hq] at CO
      have hG : Kept (M.nmax (ks.take (j + 1)) = max m q) := ⟨by rw [hT.out, D.Sm.nmax_snoc, hm, hq]⟩
      have hb1 := below_alloc_ wr (.cells (kS.v k) 39)
      have f1 := Shp.rd_new (S := kS) wr wr.heap.size 39 k rfl
      clear hk hq
      rw [hm]
      clear hm
      go_wp2_with (go_at_call 21; (refine (CO.out _ (below_up hb.out hb.out.size hb1)).mono ?_); rintro e w2 ⟨rfl, b2⟩)
      go_roundw
      case rel => exact ⟨j + 1, by omega, by go_num, by rw [hG.out] <;> go_num, Lib.hid (below_up (below_up hb.out hb.out.size hb1) (below_up hb.out hb.out.size hb1).size b2)⟩
      case measure => simp [intOf]; omega
    · obtain rfl : ks.length = j := by omega
      have hT := Lib.hid (show ks.take ks.length = ks from List.take_length)
      go_wp2
      go_ret
      exact ⟨by rw [hT.out]; rfl, below_up z1.out z1.out.size hb.out⟩
end Go.Proofs.YteiikacgcfidmaaGreatDoor
namespace Go.Proofs.YteiikacgcfidmaaGreatDoor
open Go.Shelf Go.RowKit
def lays158_ren : Go.Shelf.Ren := ⟨fun | 158 => 108 | 165 => 116 | 166 => 117 | 167 => 155 | 169 => 118 | 230 => 156 | 203 => 158 | 240 => 162 | 241 => 163 | 197 => 145 | 118 => 181 | 168 => 182 | 270 => 183 | 262 => 184 | 276 => 190 | 277 => 191 | 260 => 173 | 242 => 199 | 313 => 200 | 278 => 221 | 274 => 222 | 275 => 223 | n => n, fun | 9 => 9 | 4 => 4 | 3 => 3 | 5 => 5 | 72 => 212 | 0 => 0 | 76 => 201 | 75 => 200 | 107 => 248 | 70 => 210 | 20 => 20 | 37 => 71 | 127 => 230 | 21 => 21 | 105 => 241 | 164 => 275 | 162 => 293 | 203 => 291 | 119 => 281 | 46 => 240 | 139 => 284 | 138 => 283 | 51 => 51 | 160 => 311 | 208 => 323 | 206 => 321 | 80 => 109 | n => n, fun | 13 => 5 | 3 => 1 | 4 => 2 | n => n⟩
theorem lays158 : Go.Proofs.Lays.n158 Tryz.prog lays158_ren := {
  mixed := by kernel_rfl
  f118 := Tryz.func181.trans (congrArg some (by kernel_rfl))
  f158 := Tryz.func108.trans (congrArg some (by kernel_rfl))
  f165 := Tryz.func116.trans (congrArg some (by kernel_rfl))
  f166 := Tryz.func117.trans (congrArg some (by kernel_rfl))
  f167 := Tryz.func155.trans (congrArg some (by kernel_rfl))
  f168 := Tryz.func182.trans (congrArg some (by kernel_rfl))
  f169 := Tryz.func118.trans (congrArg some (by kernel_rfl))
  f197 := Tryz.func145.trans (congrArg some (by kernel_rfl))
  f203 := Tryz.func158.trans (congrArg some (by kernel_rfl))
  f230 := Tryz.func156.trans (congrArg some (by kernel_rfl))
  f240 := Tryz.func162.trans (congrArg some (by kernel_rfl))
  f241 := Tryz.func163.trans (congrArg some (by kernel_rfl))
  f242 := Tryz.func199.trans (congrArg some (by kernel_rfl))
  f260 := Tryz.func173.trans (congrArg some (by kernel_rfl))
  f262 := Tryz.func184.trans (congrArg some (by kernel_rfl))
  f270 := Tryz.func183.trans (congrArg some (by kernel_rfl))
  f274 := Tryz.func222.trans (congrArg some (by kernel_rfl))
  f275 := Tryz.func223.trans (congrArg some (by kernel_rfl))
  f276 := Tryz.func190.trans (congrArg some (by kernel_rfl))
  f277 := Tryz.func191.trans (congrArg some (by kernel_rfl))
  f278 := Tryz.func221.trans (congrArg some (by kernel_rfl))
  f313 := Tryz.func200.trans (congrArg some (by kernel_rfl))
  t0 := Tryz.underlying0
  a0 := Tryz.isAgg0
  z0 := Tryz.sizeOf0
  v0 := Tryz.zeroValue0
  t3 := Tryz.underlying3
  a3 := Tryz.isAgg3
  z3 := Tryz.sizeOf3
  v3 := Tryz.zeroValue3
  t4 := Tryz.underlying4
  a4 := Tryz.isAgg4
  z4 := Tryz.sizeOf4
  v4 := Tryz.zeroValue4
  t5 := Tryz.underlying5
  a5 := Tryz.isAgg5
  z5 := Tryz.sizeOf5
  v5 := Tryz.zeroValue5
  t9 := Tryz.underlying9
  a9 := Tryz.isAgg9
  z9 := Tryz.sizeOf9
  v9 := Tryz.zeroValue9
  t20 := Tryz.underlying20
  a20 := Tryz.isAgg20
  z20 := Tryz.sizeOf20
  v20 := Tryz.zeroValue20
  t21 := Tryz.underlying21
  a21 := Tryz.isAgg21
  z21 := Tryz.sizeOf21
  v21 := Tryz.zeroValue21
  t37 := Tryz.underlying71
  a37 := Tryz.isAgg71
  z37 := Tryz.sizeOf71
  v37 := Tryz.zeroValue71
  t46 := Tryz.underlying240
  a46 := Tryz.isAgg240
  z46 := Tryz.sizeOf240
  v46 := Tryz.zeroValue240
  t51 := Tryz.underlying51
  a51 := Tryz.isAgg51
  z51 := Tryz.sizeOf51
  v51 := Tryz.zeroValue51
  t70 := Tryz.underlying210
  a70 := Tryz.isAgg210
  z70 := Tryz.sizeOf210
  v70 := Tryz.zeroValue210
  t72 := Tryz.underlying212
  a72 := Tryz.isAgg212
  z72 := Tryz.sizeOf212
  v72 := Tryz.zeroValue212
  t75 := Tryz.underlying200
  a75 := Tryz.isAgg200
  z75 := Tryz.sizeOf200
  v75 := Tryz.zeroValue200
  t76 := Tryz.underlying201
  a76 := Tryz.isAgg201
  z76 := Tryz.sizeOf201
  v76 := Tryz.zeroValue201
  t105 := Tryz.underlying241
  a105 := Tryz.isAgg241
  z105 := Tryz.sizeOf241
  v105 := Tryz.zeroValue241
  t107 := Tryz.underlying248
  a107 := Tryz.isAgg248
  z107 := Tryz.sizeOf248
  v107 := Tryz.zeroValue248
  t119 := Tryz.underlying281
  a119 := Tryz.isAgg281
  z119 := Tryz.sizeOf281
  t127 := Tryz.underlying230
  a127 := Tryz.isAgg230
  z127 := Tryz.sizeOf230
  v127 := Tryz.zeroValue230
  t138 := Tryz.underlying283
  a138 := Tryz.isAgg283
  z138 := Tryz.sizeOf283
  v138 := Tryz.zeroValue283
  t139 := Tryz.underlying284
  a139 := Tryz.isAgg284
  z139 := Tryz.sizeOf284
  v139 := Tryz.zeroValue284
  t160 := Tryz.underlying311
  a160 := Tryz.isAgg311
  z160 := Tryz.sizeOf311
  v160 := Tryz.zeroValue311
  t162 := Tryz.underlying293
  a162 := Tryz.isAgg293
  z162 := Tryz.sizeOf293
  v162 := Tryz.zeroValue293
  t164 := Tryz.underlying275
  a164 := Tryz.isAgg275
  z164 := Tryz.sizeOf275
  v164 := Tryz.zeroValue275
  t203 := Tryz.underlying291
  a203 := Tryz.isAgg291
  z203 := Tryz.sizeOf291
  v203 := Tryz.zeroValue291
  t206 := Tryz.underlying321
  a206 := Tryz.isAgg321
  z206 := Tryz.sizeOf321
  v206 := Tryz.zeroValue321
  t208 := Tryz.underlying323
  a208 := Tryz.isAgg323
  z208 := Tryz.sizeOf323
  v208 := Tryz.zeroValue323
  g3 := by kernel_rfl
  g4 := by kernel_rfl
  g13 := by kernel_rfl }
theorem Builder_Extra_158 : Builder.Extra Tryz.prog lays158_ren := {
  sizeBuilder := by kernel_rfl
  liesBuilder := by kernel_rfl
  t5 := Tryz.underlying5
  a5 := Tryz.isAgg5
  z5 := Tryz.sizeOf5
  v5 := Tryz.zeroValue5
  infoByte := by kernel_rfl
  cellsByte := by kernel_rfl
  sizeByte := by kernel_rfl
  neB5 := by decide }
def lays159_ren : Go.Shelf.Ren := ⟨fun | 159 => 106 | 165 => 116 | 166 => 117 | 167 => 155 | 169 => 118 | 230 => 156 | 204 => 157 | 240 => 162 | 241 => 163 | 197 => 145 | 118 => 181 | 168 => 182 | 270 => 183 | 262 => 184 | 276 => 190 | 277 => 191 | 260 => 173 | 242 => 199 | 313 => 200 | 278 => 221 | 274 => 222 | 275 => 223 | n => n, fun | 9 => 9 | 4 => 4 | 3 => 3 | 5 => 5 | 72 => 212 | 0 => 0 | 76 => 201 | 75 => 200 | 107 => 248 | 70 => 210 | 20 => 20 | 37 => 71 | 127 => 230 | 21 => 21 | 105 => 241 | 164 => 275 | 162 => 293 | 203 => 291 | 119 => 281 | 46 => 240 | 139 => 284 | 138 => 283 | 51 => 51 | 160 => 311 | 208 => 323 | 206 => 321 | 80 => 109 | n => n, fun | 13 => 5 | 3 => 1 | 4 => 2 | n => n⟩
theorem lays159 : Go.Proofs.Lays.n159 Tryz.prog lays159_ren := {
  mixed := by kernel_rfl
  f118 := Tryz.func181.trans (congrArg some (by kernel_rfl))
  f159 := Tryz.func106.trans (congrArg some (by kernel_rfl))
  f165 := Tryz.func116.trans (congrArg some (by kernel_rfl))
  f166 := Tryz.func117.trans (congrArg some (by kernel_rfl))
  f167 := Tryz.func155.trans (congrArg some (by kernel_rfl))
  f168 := Tryz.func182.trans (congrArg some (by kernel_rfl))
  f169 := Tryz.func118.trans (congrArg some (by kernel_rfl))
  f197 := Tryz.func145.trans (congrArg some (by kernel_rfl))
  f204 := Tryz.func157.trans (congrArg some (by kernel_rfl))
  f230 := Tryz.func156.trans (congrArg some (by kernel_rfl))
  f240 := Tryz.func162.trans (congrArg some (by kernel_rfl))
  f241 := Tryz.func163.trans (congrArg some (by kernel_rfl))
  f242 := Tryz.func199.trans (congrArg some (by kernel_rfl))
  f260 := Tryz.func173.trans (congrArg some (by kernel_rfl))
  f262 := Tryz.func184.trans (congrArg some (by kernel_rfl))
  f270 := Tryz.func183.trans (congrArg some (by kernel_rfl))
  f274 := Tryz.func222.trans (congrArg some (by kernel_rfl))
  f275 := Tryz.func223.trans (congrArg some (by kernel_rfl))
  f276 := Tryz.func190.trans (congrArg some (by kernel_rfl))
  f277 := Tryz.func191.trans (congrArg some (by kernel_rfl))
  f278 := Tryz.func221.trans (congrArg some (by kernel_rfl))
  f313 := Tryz.func200.trans (congrArg some (by kernel_rfl))
  t0 := Tryz.underlying0
  a0 := Tryz.isAgg0
  z0 := Tryz.sizeOf0
  v0 := Tryz.zeroValue0
  t3 := Tryz.underlying3
  a3 := Tryz.isAgg3
  z3 := Tryz.sizeOf3
  v3 := Tryz.zeroValue3
  t4 := Tryz.underlying4
  a4 := Tryz.isAgg4
  z4 := Tryz.sizeOf4
  v4 := Tryz.zeroValue4
  t5 := Tryz.underlying5
  a5 := Tryz.isAgg5
  z5 := Tryz.sizeOf5
  v5 := Tryz.zeroValue5
  t9 := Tryz.underlying9
  a9 := Tryz.isAgg9
  z9 := Tryz.sizeOf9
  v9 := Tryz.zeroValue9
  t20 := Tryz.underlying20
  a20 := Tryz.isAgg20
  z20 := Tryz.sizeOf20
  v20 := Tryz.zeroValue20
  t21 := Tryz.underlying21
  a21 := Tryz.isAgg21
  z21 := Tryz.sizeOf21
  v21 := Tryz.zeroValue21
  t37 := Tryz.underlying71
  a37 := Tryz.isAgg71
  z37 := Tryz.sizeOf71
  v37 := Tryz.zeroValue71
  t46 := Tryz.underlying240
  a46 := Tryz.isAgg240
  z46 := Tryz.sizeOf240
  v46 := Tryz.zeroValue240
  t51 := Tryz.underlying51
  a51 := Tryz.isAgg51
  z51 := Tryz.sizeOf51
  v51 := Tryz.zeroValue51
  t70 := Tryz.underlying210
  a70 := Tryz.isAgg210
  z70 := Tryz.sizeOf210
  v70 := Tryz.zeroValue210
  t72 := Tryz.underlying212
  a72 := Tryz.isAgg212
  z72 := Tryz.sizeOf212
  v72 := Tryz.zeroValue212
  t75 := Tryz.underlying200
  a75 := Tryz.isAgg200
  z75 := Tryz.sizeOf200
  v75 := Tryz.zeroValue200
  t76 := Tryz.underlying201
  a76 := Tryz.isAgg201
  z76 := Tryz.sizeOf201
  v76 := Tryz.zeroValue201
  t105 := Tryz.underlying241
  a105 := Tryz.isAgg241
  z105 := Tryz.sizeOf241
  v105 := Tryz.zeroValue241
  t107 := Tryz.underlying248
  a107 := Tryz.isAgg248
  z107 := Tryz.sizeOf248
  v107 := Tryz.zeroValue248
  t119 := Tryz.underlying281
  a119 := Tryz.isAgg281
  z119 := Tryz.sizeOf281
  t127 := Tryz.underlying230
  a127 := Tryz.isAgg230
  z127 := Tryz.sizeOf230
  v127 := Tryz.zeroValue230
  t138 := Tryz.underlying283
  a138 := Tryz.isAgg283
  z138 := Tryz.sizeOf283
  v138 := Tryz.zeroValue283
  t139 := Tryz.underlying284
  a139 := Tryz.isAgg284
  z139 := Tryz.sizeOf284
  v139 := Tryz.zeroValue284
  t160 := Tryz.underlying311
  a160 := Tryz.isAgg311
  z160 := Tryz.sizeOf311
  v160 := Tryz.zeroValue311
  t162 := Tryz.underlying293
  a162 := Tryz.isAgg293
  z162 := Tryz.sizeOf293
  v162 := Tryz.zeroValue293
  t164 := Tryz.underlying275
  a164 := Tryz.isAgg275
  z164 := Tryz.sizeOf275
  v164 := Tryz.zeroValue275
  t203 := Tryz.underlying291
  a203 := Tryz.isAgg291
  z203 := Tryz.sizeOf291
  v203 := Tryz.zeroValue291
  t206 := Tryz.underlying321
  a206 := Tryz.isAgg321
  z206 := Tryz.sizeOf321
  v206 := Tryz.zeroValue321
  t208 := Tryz.underlying323
  a208 := Tryz.isAgg323
  z208 := Tryz.sizeOf323
  v208 := Tryz.zeroValue323
  g3 := by kernel_rfl
  g4 := by kernel_rfl
  g13 := by kernel_rfl }
theorem Builder_Extra_159 : Builder.Extra Tryz.prog lays159_ren := {
  sizeBuilder := by kernel_rfl
  liesBuilder := by kernel_rfl
  t5 := Tryz.underlying5
  a5 := Tryz.isAgg5
  z5 := Tryz.sizeOf5
  v5 := Tryz.zeroValue5
  infoByte := by kernel_rfl
  cellsByte := by kernel_rfl
  sizeByte := by kernel_rfl
  neB5 := by decide }
def lays156_ren : Go.Shelf.Ren := ⟨fun | 156 => 76 | 165 => 116 | 166 => 117 | 169 => 118 | 240 => 162 | 241 => 163 | 276 => 190 | 277 => 191 | n => n, fun | 31 => 106 | 9 => 9 | 3 => 3 | 4 => 4 | 0 => 0 | 20 => 20 | 72 => 212 | 76 => 201 | 70 => 210 | 37 => 71 | 75 => 200 | 127 => 230 | 164 => 275 | 5 => 5 | 80 => 109 | n => n, fun | n => n⟩
theorem lays156 : Go.Proofs.Lays.n156 Tryz.prog lays156_ren := {
  mixed := by kernel_rfl
  f156 := Tryz.func76.trans (congrArg some (by kernel_rfl))
  f165 := Tryz.func116.trans (congrArg some (by kernel_rfl))
  f166 := Tryz.func117.trans (congrArg some (by kernel_rfl))
  f169 := Tryz.func118.trans (congrArg some (by kernel_rfl))
  f240 := Tryz.func162.trans (congrArg some (by kernel_rfl))
  f241 := Tryz.func163.trans (congrArg some (by kernel_rfl))
  f276 := Tryz.func190.trans (congrArg some (by kernel_rfl))
  f277 := Tryz.func191.trans (congrArg some (by kernel_rfl))
  t0 := Tryz.underlying0
  a0 := Tryz.isAgg0
  z0 := Tryz.sizeOf0
  v0 := Tryz.zeroValue0
  t3 := Tryz.underlying3
  a3 := Tryz.isAgg3
  z3 := Tryz.sizeOf3
  v3 := Tryz.zeroValue3
  t4 := Tryz.underlying4
  a4 := Tryz.isAgg4
  z4 := Tryz.sizeOf4
  v4 := Tryz.zeroValue4
  t9 := Tryz.underlying9
  a9 := Tryz.isAgg9
  z9 := Tryz.sizeOf9
  v9 := Tryz.zeroValue9
  t20 := Tryz.underlying20
  a20 := Tryz.isAgg20
  z20 := Tryz.sizeOf20
  v20 := Tryz.zeroValue20
  t31 := Tryz.underlying106
  a31 := Tryz.isAgg106
  z31 := Tryz.sizeOf106
  v31 := Tryz.zeroValue106
  t37 := Tryz.underlying71
  a37 := Tryz.isAgg71
  z37 := Tryz.sizeOf71
  v37 := Tryz.zeroValue71
  t70 := Tryz.underlying210
  a70 := Tryz.isAgg210
  z70 := Tryz.sizeOf210
  v70 := Tryz.zeroValue210
  t72 := Tryz.underlying212
  a72 := Tryz.isAgg212
  z72 := Tryz.sizeOf212
  v72 := Tryz.zeroValue212
  t75 := Tryz.underlying200
  a75 := Tryz.isAgg200
  z75 := Tryz.sizeOf200
  v75 := Tryz.zeroValue200
  t76 := Tryz.underlying201
  a76 := Tryz.isAgg201
  z76 := Tryz.sizeOf201
  v76 := Tryz.zeroValue201
  t127 := Tryz.underlying230
  a127 := Tryz.isAgg230
  z127 := Tryz.sizeOf230
  v127 := Tryz.zeroValue230
  t164 := Tryz.underlying275
  a164 := Tryz.isAgg275
  z164 := Tryz.sizeOf275
  v164 := Tryz.zeroValue275 }
theorem Builder_Extra_156 : Builder.Extra Tryz.prog lays156_ren := {
  sizeBuilder := by kernel_rfl
  liesBuilder := by kernel_rfl
  t5 := Tryz.underlying5
  a5 := Tryz.isAgg5
  z5 := Tryz.sizeOf5
  v5 := Tryz.zeroValue5
  infoByte := by kernel_rfl
  cellsByte := by kernel_rfl
  sizeByte := by kernel_rfl
  neB5 := by decide }
def lays147_ren : Go.Shelf.Ren := ⟨fun | 147 => 43 | 221 => 65 | 268 => 99 | 138 => 100 | 143 => 66 | 195 => 144 | 197 => 145 | 218 => 146 | 219 => 101 | 260 => 173 | 217 => 147 | 225 => 148 | 224 => 149 | 267 => 150 | 266 => 174 | 314 => 175 | n => n, fun | 9 => 9 | 3 => 3 | 31 => 106 | 4 => 4 | 0 => 0 | 105 => 241 | 21 => 21 | 5 => 5 | 46 => 240 | 119 => 281 | 139 => 284 | 138 => 283 | 146 => 258 | 51 => 51 | n => n, fun | 1 => 0 | 3 => 1 | 4 => 2 | n => n⟩
theorem lays147 : Go.Proofs.Lays.n147 Tryz.prog lays147_ren := {
  mixed := by kernel_rfl
  f138 := Tryz.func100.trans (congrArg some (by kernel_rfl))
  f143 := Tryz.func66.trans (congrArg some (by kernel_rfl))
  f147 := Tryz.func43.trans (congrArg some (by kernel_rfl))
  f195 := Tryz.func144.trans (congrArg some (by kernel_rfl))
  f197 := Tryz.func145.trans (congrArg some (by kernel_rfl))
  f217 := Tryz.func147.trans (congrArg some (by kernel_rfl))
  f218 := Tryz.func146.trans (congrArg some (by kernel_rfl))
  f219 := Tryz.func101.trans (congrArg some (by kernel_rfl))
  f221 := Tryz.func65.trans (congrArg some (by kernel_rfl))
  f224 := Tryz.func149.trans (congrArg some (by kernel_rfl))
  f225 := Tryz.func148.trans (congrArg some (by kernel_rfl))
  f260 := Tryz.func173.trans (congrArg some (by kernel_rfl))
  f266 := Tryz.func174.trans (congrArg some (by kernel_rfl))
  f267 := Tryz.func150.trans (congrArg some (by kernel_rfl))
  f268 := Tryz.func99.trans (congrArg some (by kernel_rfl))
  f314 := Tryz.func175.trans (congrArg some (by kernel_rfl))
  t0 := Tryz.underlying0
  a0 := Tryz.isAgg0
  z0 := Tryz.sizeOf0
  v0 := Tryz.zeroValue0
  t3 := Tryz.underlying3
  a3 := Tryz.isAgg3
  z3 := Tryz.sizeOf3
  v3 := Tryz.zeroValue3
  t4 := Tryz.underlying4
  a4 := Tryz.isAgg4
  z4 := Tryz.sizeOf4
  v4 := Tryz.zeroValue4
  t5 := Tryz.underlying5
  a5 := Tryz.isAgg5
  z5 := Tryz.sizeOf5
  v5 := Tryz.zeroValue5
  t9 := Tryz.underlying9
  a9 := Tryz.isAgg9
  z9 := Tryz.sizeOf9
  v9 := Tryz.zeroValue9
  t21 := Tryz.underlying21
  a21 := Tryz.isAgg21
  z21 := Tryz.sizeOf21
  v21 := Tryz.zeroValue21
  t31 := Tryz.underlying106
  a31 := Tryz.isAgg106
  z31 := Tryz.sizeOf106
  v31 := Tryz.zeroValue106
  t46 := Tryz.underlying240
  a46 := Tryz.isAgg240
  z46 := Tryz.sizeOf240
  v46 := Tryz.zeroValue240
  t51 := Tryz.underlying51
  a51 := Tryz.isAgg51
  z51 := Tryz.sizeOf51
  v51 := Tryz.zeroValue51
  t105 := Tryz.underlying241
  a105 := Tryz.isAgg241
  z105 := Tryz.sizeOf241
  v105 := Tryz.zeroValue241
  t119 := Tryz.underlying281
  a119 := Tryz.isAgg281
  z119 := Tryz.sizeOf281
  t138 := Tryz.underlying283
  a138 := Tryz.isAgg283
  z138 := Tryz.sizeOf283
  v138 := Tryz.zeroValue283
  t139 := Tryz.underlying284
  a139 := Tryz.isAgg284
  z139 := Tryz.sizeOf284
  v139 := Tryz.zeroValue284
  t146 := Tryz.underlying258
  a146 := Tryz.isAgg258
  z146 := Tryz.sizeOf258
  v146 := Tryz.zeroValue258
  g1 := by kernel_rfl
  g3 := by kernel_rfl
  g4 := by kernel_rfl }
def lays185_ren : Go.Shelf.Ren := ⟨fun | 185 => 189 | 187 => 206 | 115 => 207 | 253 => 208 | 224 => 149 | 254 => 209 | 255 => 226 | 291 => 227 | n => n, fun | 37 => 71 | 3 => 3 | 4 => 4 | 0 => 0 | 5 => 5 | 46 => 240 | 9 => 9 | 146 => 258 | 51 => 51 | n => n, fun | 1 => 0 | n => n⟩
theorem lays185 : Go.Proofs.Lays.n185 Tryz.prog lays185_ren := {
  mixed := by kernel_rfl
  f115 := Tryz.func207.trans (congrArg some (by kernel_rfl))
  f185 := Tryz.func189.trans (congrArg some (by kernel_rfl))
  f187 := Tryz.func206.trans (congrArg some (by kernel_rfl))
  f224 := Tryz.func149.trans (congrArg some (by kernel_rfl))
  f253 := Tryz.func208.trans (congrArg some (by kernel_rfl))
  f254 := Tryz.func209.trans (congrArg some (by kernel_rfl))
  f255 := Tryz.func226.trans (congrArg some (by kernel_rfl))
  f291 := Tryz.func227.trans (congrArg some (by kernel_rfl))
  t0 := Tryz.underlying0
  a0 := Tryz.isAgg0
  z0 := Tryz.sizeOf0
  v0 := Tryz.zeroValue0
  t3 := Tryz.underlying3
  a3 := Tryz.isAgg3
  z3 := Tryz.sizeOf3
  v3 := Tryz.zeroValue3
  t4 := Tryz.underlying4
  a4 := Tryz.isAgg4
  z4 := Tryz.sizeOf4
  v4 := Tryz.zeroValue4
  t5 := Tryz.underlying5
  a5 := Tryz.isAgg5
  z5 := Tryz.sizeOf5
  v5 := Tryz.zeroValue5
  t9 := Tryz.underlying9
  a9 := Tryz.isAgg9
  z9 := Tryz.sizeOf9
  v9 := Tryz.zeroValue9
  t37 := Tryz.underlying71
  a37 := Tryz.isAgg71
  z37 := Tryz.sizeOf71
  v37 := Tryz.zeroValue71
  t46 := Tryz.underlying240
  a46 := Tryz.isAgg240
  z46 := Tryz.sizeOf240
  v46 := Tryz.zeroValue240
  t51 := Tryz.underlying51
  a51 := Tryz.isAgg51
  z51 := Tryz.sizeOf51
  v51 := Tryz.zeroValue51
  t146 := Tryz.underlying258
  a146 := Tryz.isAgg258
  z146 := Tryz.sizeOf258
  v146 := Tryz.zeroValue258
  g1 := by kernel_rfl }
def laysSlT4_ren : Go.Shelf.Ren := ⟨fun | 4 => 161 | 5 => 189 | 6 => 206 | 7 => 207 | 8 => 208 | 9 => 149 | 10 => 209 | 11 => 226 | 12 => 227 | n => n, fun | 22 => 71 | 4 => 4 | 3 => 3 | 0 => 0 | 5 => 5 | 29 => 240 | 9 => 9 | 31 => 258 | 30 => 51 | n => n, fun | 0 => 0 | n => n⟩
theorem laysSlT4 : Go.Proofs.SlLaysT.n4 Tryz.prog laysSlT4_ren := {
  mixed := by kernel_rfl
  f4 := Tryz.func161.trans (congrArg some (by kernel_rfl))
  f5 := Tryz.func189.trans (congrArg some (by kernel_rfl))
  f6 := Tryz.func206.trans (congrArg some (by kernel_rfl))
  f7 := Tryz.func207.trans (congrArg some (by kernel_rfl))
  f8 := Tryz.func208.trans (congrArg some (by kernel_rfl))
  f9 := Tryz.func149.trans (congrArg some (by kernel_rfl))
  f10 := Tryz.func209.trans (congrArg some (by kernel_rfl))
  f11 := Tryz.func226.trans (congrArg some (by kernel_rfl))
  f12 := Tryz.func227.trans (congrArg some (by kernel_rfl))
  t0 := Tryz.underlying0
  a0 := Tryz.isAgg0
  z0 := Tryz.sizeOf0
  v0 := Tryz.zeroValue0
  t3 := Tryz.underlying3
  a3 := Tryz.isAgg3
  z3 := Tryz.sizeOf3
  v3 := Tryz.zeroValue3
  t4 := Tryz.underlying4
  a4 := Tryz.isAgg4
  z4 := Tryz.sizeOf4
  v4 := Tryz.zeroValue4
  t5 := Tryz.underlying5
  a5 := Tryz.isAgg5
  z5 := Tryz.sizeOf5
  v5 := Tryz.zeroValue5
  t9 := Tryz.underlying9
  a9 := Tryz.isAgg9
  z9 := Tryz.sizeOf9
  v9 := Tryz.zeroValue9
  t22 := Tryz.underlying71
  a22 := Tryz.isAgg71
  z22 := Tryz.sizeOf71
  v22 := Tryz.zeroValue71
  t29 := Tryz.underlying240
  a29 := Tryz.isAgg240
  z29 := Tryz.sizeOf240
  v29 := Tryz.zeroValue240
  t30 := Tryz.underlying51
  a30 := Tryz.isAgg51
  z30 := Tryz.sizeOf51
  v30 := Tryz.zeroValue51
  t31 := Tryz.underlying258
  a31 := Tryz.isAgg258
  z31 := Tryz.sizeOf258
  v31 := Tryz.zeroValue258
  g0 := by kernel_rfl }
end Go.Proofs.YteiikacgcfidmaaGreatDoor
set_option linter.unusedVariables false
set_option linter.unusedSimpArgs false
namespace Go.Proofs.YteiikacgcfidmaaGreatDoor
open Go.RowKit

theorem letter_any (c : Nat) (w : World) : Calls Tryz.prog 154 #[.int .u8 c] w fun e w' => e = .returned (.bool (D.letB c)) ∧ w = w' := by
  go_enter Tryz.func154, Tryz.ntmps154
  go_wp2
  all_goals
    go_ret
    refine ⟨bool_of ?_, rfl⟩
    unfold D.letB
    rw [Bool.eq_iff_iff]
    simp
    omega
theorem digit_any (c : Nat) (w : World) : Calls Tryz.prog 159 #[.int .u8 c] w fun e w' => e = .returned (.bool (D.digB c)) ∧ w = w' := by
  go_enter Tryz.func159, Tryz.ntmps159
  go_wp2
  all_goals
    go_ret
    refine ⟨bool_of ?_, rfl⟩
    unfold D.digB
    rw [Bool.eq_iff_iff]
    simp
    try omega
theorem ns_at {s : ByteArray} {k : Nat} (h : k < s.size) : (D.ns s)[k]? = some (s[k].toNat) := by
  simp [D.ns]
  exact ⟨s[k], by rw [Array.getElem?_eq_getElem (by exact h)]; rfl, rfl⟩
/-- So far each byte is of the kind. -/
structure Fine (f : Nat → Bool) (t : List Nat) (k : Nat) : Prop where
  out : (t.take k).all f = true
theorem fine_first (f : Nat → Bool) (t : List Nat) : Fine f t 0 := ⟨rfl⟩
theorem take_next {t : List Nat} {k b : Nat} (h : t[k]? = some b) : t.take (k + 1) = t.take k ++ [b] := by rw [List.take_add_one, h]; rfl
theorem fine_next {f : Nat → Bool} {t : List Nat} {k b : Nat} (h : Fine f t k) (hb : t[k]? = some b) (hm : f b = true) : Fine f t (k + 1) := ⟨by rw [take_next hb, List.all_append, h.out]; simp [hm]⟩
theorem fine_all {f : Nat → Bool} {t : List Nat} {k : Nat} (h : Fine f t k) (hk : t.length ≤ k) : t.all f = true := by have := h.out; rwa [List.take_of_length_le hk] at this
theorem not_fine {f : Nat → Bool} {t : List Nat} {k b : Nat} (hb : t[k]? = some b) (hm : f b = false) : t.all f = false := by
  cases h : t.all f
  · rfl
  · have := List.all_eq_true.1 h b (List.mem_of_getElem? hb)
    rw [hm] at this; cases this
theorem all_letter (s : ByteArray) (w : World) (hs : s.size ≤ 100) : Calls Tryz.prog 153 #[.string s, .func (.func 154) #[] #[]] w fun e w' => e = .returned (.bool (D.allL (D.ns s))) ∧ w = w' := by
  go_enter Tryz.func153, Tryz.ntmps153
  go_wp2
  go_loop [8] (fun i => ∃ k : Nat, k ≤ s.size ∧ i = .int .i64 k ∧ Fine D.letB (D.ns s) k) (fun i => s.size - (intOf i).toNat)
  case atStart => exact ⟨0, Nat.zero_le _, rfl, fine_first _ _⟩
  case round =>
    obtain ⟨k, hk, rfl, hf⟩ := hrel
    by_cases hlt : k < s.size
    · have hb := ns_at hlt
      obtain ⟨c, hc⟩ : ∃ c, s[k].toNat = c := ⟨_, rfl⟩
      rw [hc] at hb
      have H := Lib.hid (fun w => letter_any c w)
      rw [← hc] at H
      obtain ⟨b, hv⟩ : ∃ b, D.letB (s[k].toNat) = b := ⟨_, rfl⟩
      rw [hv] at H
      have HB := Lib.hid hb
      have HV := Lib.hid hv
      have HC := Lib.hid hc
      clear hb hv hc
      cases b
      · go_wp2_with (go_at_call 154; (with_reducible refine (H.out _).mono ?_); rintro e w' ⟨rfl, rfl⟩)
        go_ret
        exact ⟨bool_of (not_fine HB.out (by rw [← HC.out]; exact HV.out)).symm, rfl⟩
      · go_wp2_with (go_at_call 154; (with_reducible refine (H.out _).mono ?_); rintro e w' ⟨rfl, rfl⟩)
        go_round
        case rel => exact ⟨k + 1, by omega, by go_num, fine_next hf HB.out (by rw [← HC.out]; exact HV.out)⟩
        case measure => simp [intOf]; omega
    · go_wp2
      go_ret
      exact ⟨bool_of (fine_all hf (by rw [D.ns_len]; omega)).symm, rfl⟩
theorem all_digit (s : ByteArray) (w : World) (hs : s.size ≤ 100) : Calls Tryz.prog 153 #[.string s, .func (.func 159) #[] #[]] w fun e w' => e = .returned (.bool (D.allD (D.ns s))) ∧ w = w' := by
  go_enter Tryz.func153, Tryz.ntmps153
  go_wp2
  go_loop [8] (fun i => ∃ k : Nat, k ≤ s.size ∧ i = .int .i64 k ∧ Fine D.digB (D.ns s) k) (fun i => s.size - (intOf i).toNat)
  case atStart => exact ⟨0, Nat.zero_le _, rfl, fine_first _ _⟩
  case round =>
    obtain ⟨k, hk, rfl, hf⟩ := hrel
    by_cases hlt : k < s.size
    · have hb := ns_at hlt
      obtain ⟨c, hc⟩ : ∃ c, s[k].toNat = c := ⟨_, rfl⟩
      rw [hc] at hb
      have H := Lib.hid (fun w => digit_any c w)
      rw [← hc] at H
      obtain ⟨b, hv⟩ : ∃ b, D.digB (s[k].toNat) = b := ⟨_, rfl⟩
      rw [hv] at H
      have HB := Lib.hid hb
      have HV := Lib.hid hv
      have HC := Lib.hid hc
      clear hb hv hc
      cases b
      · go_wp2_with (go_at_call 159; (with_reducible refine (H.out _).mono ?_); rintro e w' ⟨rfl, rfl⟩)
        go_ret
        exact ⟨bool_of (not_fine HB.out (by rw [← HC.out]; exact HV.out)).symm, rfl⟩
      · go_wp2_with (go_at_call 159; (with_reducible refine (H.out _).mono ?_); rintro e w' ⟨rfl, rfl⟩)
        go_round
        case rel => exact ⟨k + 1, by omega, by go_num, fine_next hf HB.out (by rw [← HC.out]; exact HV.out)⟩
        case measure => simp [intOf]; omega
    · go_wp2
      go_ret
      exact ⟨bool_of (fine_all hf (by rw [D.ns_len]; omega)).symm, rfl⟩
theorem isLang_any (s : ByteArray) (w : World) (hs : s.size ≤ 100) : Calls Tryz.prog 105 #[.string s] w fun e w' => e = .returned (.bool (D.isL (D.ns s))) ∧ w = w' := by
  have H := Lib.hid (fun w => all_letter s w hs)
  obtain ⟨b, hb⟩ : ∃ b, D.allL (D.ns s) = b := ⟨_, rfl⟩
  rw [hb] at H
  have E : D.isL (D.ns s) = ((s.size == 2 || s.size == 3) && b) := by rw [← hb, D.isL, D.ns_len]
  rw [E]
  clear E hb
  go_enter Tryz.func105, Tryz.ntmps105
  by_cases h2 : s.size = 2
  · have c2 : ((s.size : Int) == 2) = true := by rw [beq_iff_eq]; omega
    have e2 : ((s.size == 2 || s.size == 3) && b) = b := by simp [h2]
    rw [e2]
    clear e2 h2
    go_wp2_with (go_at_call 153; (with_reducible refine (H.out _).mono ?_); rintro e w' ⟨rfl, rfl⟩)
    go_ret
    exact ⟨rfl, rfl⟩
  · have c2 : ((s.size : Int) == 2) = false := by rw [beq_eq_false_iff_ne]; omega
    by_cases h3 : s.size = 3
    · have c3 : ((s.size : Int) == 3) = true := by rw [beq_iff_eq]; omega
      have e2 : ((s.size == 2 || s.size == 3) && b) = b := by simp [h3]
      rw [e2]
      clear e2 h2 h3
      go_wp2_with (go_at_call 153; (with_reducible refine (H.out _).mono ?_); rintro e w' ⟨rfl, rfl⟩)
      go_ret
      exact ⟨rfl, rfl⟩
    · have c3 : ((s.size : Int) == 3) = false := by rw [beq_eq_false_iff_ne]; omega
      have e2 : ((s.size == 2 || s.size == 3) && b) = false := by simp [h2, h3]
      rw [e2]
      clear e2 h2 h3
      go_wp2
      go_ret
      exact ⟨rfl, rfl⟩
theorem isScript_any (s : ByteArray) (w : World) (hs : s.size ≤ 100) : Calls Tryz.prog 107 #[.string s] w fun e w' => e = .returned (.bool (D.isS (D.ns s))) ∧ w = w' := by
  have H := Lib.hid (fun w => all_letter s w hs)
  obtain ⟨b, hb⟩ : ∃ b, D.allL (D.ns s) = b := ⟨_, rfl⟩
  rw [hb] at H
  have E : D.isS (D.ns s) = (s.size == 4 && b) := by rw [← hb, D.isS, D.ns_len]
  rw [E]
  clear E hb
  go_enter Tryz.func107, Tryz.ntmps107
  by_cases h2 : s.size = 4
  · have c2 : ((s.size : Int) == 4) = true := by rw [beq_iff_eq]; omega
    have e2 : (s.size == 4 && b) = b := by simp [h2]
    rw [e2]
    clear e2 h2
    go_wp2_with (go_at_call 153; (with_reducible refine (H.out _).mono ?_); rintro e w' ⟨rfl, rfl⟩)
    go_ret
    exact ⟨rfl, rfl⟩
  · have c2 : ((s.size : Int) == 4) = false := by rw [beq_eq_false_iff_ne]; omega
    have e2 : (s.size == 4 && b) = false := by simp [h2]
    rw [e2]
    clear e2 h2
    go_wp2
    go_ret
    exact ⟨rfl, rfl⟩
theorem isRegion_any (s : ByteArray) (w : World) (hs : s.size ≤ 100) : Calls Tryz.prog 109 #[.string s] w fun e w' => e = .returned (.bool (D.isR (D.ns s))) ∧ w = w' := by
  have H := Lib.hid (fun w => all_letter s w hs)
  have K := Lib.hid (fun w => all_digit s w hs)
  obtain ⟨b, hb⟩ : ∃ b, D.allL (D.ns s) = b := ⟨_, rfl⟩
  obtain ⟨d, hd⟩ : ∃ d, D.allD (D.ns s) = d := ⟨_, rfl⟩
  rw [hb] at H
  rw [hd] at K
  have E : D.isR (D.ns s) = (s.size == 2 && b || s.size == 3 && d) := by rw [← hb, ← hd, D.isR, D.ns_len]
  rw [E]
  clear E hb hd
  go_enter Tryz.func109, Tryz.ntmps109
  by_cases h2 : s.size = 2
  · have c2 : ((s.size : Int) == 2) = true := by rw [beq_iff_eq]; omega
    have c3 : ((s.size : Int) == 3) = false := by rw [beq_eq_false_iff_ne]; omega
    have e2 : (s.size == 2 && b || s.size == 3 && d) = b := by simp [h2]
    rw [e2]
    clear e2 h2
    cases b
    all_goals
      go_wp2_with (go_at_call 153; (with_reducible refine (H.out _).mono ?_); rintro e w' ⟨rfl, rfl⟩)
      go_ret
      exact ⟨rfl, rfl⟩
  · have c2 : ((s.size : Int) == 2) = false := by rw [beq_eq_false_iff_ne]; omega
    by_cases h3 : s.size = 3
    · have c3 : ((s.size : Int) == 3) = true := by rw [beq_iff_eq]; omega
      have e2 : (s.size == 2 && b || s.size == 3 && d) = d := by simp [h3]
      rw [e2]
      clear e2 h2 h3
      go_wp2_with (go_at_call 153; (with_reducible refine (K.out _).mono ?_); rintro e w' ⟨rfl, rfl⟩)
      go_ret
      exact ⟨rfl, rfl⟩
    · have c3 : ((s.size : Int) == 3) = false := by rw [beq_eq_false_iff_ne]; omega
      have e2 : (s.size == 2 && b || s.size == 3 && d) = false := by simp [h2, h3]
      rw [e2]
      clear e2 h2 h3
      go_wp2
      go_ret
      exact ⟨rfl, rfl⟩
end Go.Proofs.YteiikacgcfidmaaGreatDoor
