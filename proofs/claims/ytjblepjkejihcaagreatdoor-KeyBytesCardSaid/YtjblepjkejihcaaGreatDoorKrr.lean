/-
  The document's Right, digits and Text, of keys.
-/
import Derived.Test.YtjblepjkejihcaaGreatDoorKro
import Derived.Test.YtjblepjkejihcaaGreatDoorKtx
set_option linter.unusedVariables false
set_option linter.unusedSimpArgs false
set_option maxRecDepth 100000
namespace Go.Proofs.YtjblepjkejihcaaGreatDoor
open Go.RowKit
theorem Nm.rd_extr (w : World) (p : On) (a : Addr) (h : a.block < w.heap.size) : Nm.rd (ext w p) a = Nm.rd w a := Nm.rd_to (ext_heap w p h)
theorem Shp.rd_extr {α : Type} {S : Shp α} (w : World) (p : On) (a : Addr) (h : a.block < w.heap.size) : S.rd (ext w p) a = S.rd w a := Shp.rd_to (ext_heap w p h)
attribute [local go_sem ↓] Go.wp_at_zero Go.wp_at_succ ld_k lv_k st_k eq_k ne_k bd_k ld_b lv_b st_b eq_b ne_b bd_25 ld_r lv_r st_rk eq_rk ne_rk bd_r ld_p lv_p st_px bd_p Nm.ld_a Nm.ld_n Nm.st_a Nm.st_n Nm.eq_a Nm.eq_n Nm.ne_a Nm.ne_n Nm.lv_a Nm.lv_n ld_a ld_n st_a st_n eq_a eq_n ne_a ne_n lv_a lv_n
attribute [local go_sem] run_ldk run_lvk run_stk run_eqk run_nek run_bdk_z run_ldb run_lvb run_stb run_eqb run_neb run_ldr run_lvr run_strk run_eqrk run_nerk run_bdr_z run_ldp run_lvp run_stpx Nm.run_ld_a Nm.run_ld_n Nm.run_st_n Nm.run_eq_a Nm.run_eq_n Nm.run_ne_a Nm.run_ne_n Nm.run_lv_a Nm.run_lv_n Nm.rd_new Nm.rd_old Nm.rd_drew Nm.rd_drewN run_ld_a run_ld_n run_sw_a run_sw_n run_eq_a run_eq_n run_ne_a run_ne_n run_lv_a run_lv_n st_z ne_z eq_z rd_new rd_old rd_drew rd_drewN Shp.rd_new Shp.rd_old Shp.rd_drew Shp.rd_drewN Shp.rd_set Shp.tn_new Shp.tn_old Shp.tn_drew Shp.tn_drewN tn_new tn_old tn_drew tn_drewN rd_set setRow_alloc run_stn3 run_stt15 cell_ext rd_ext Nm.rd_extr Shp.rd_extr

theorem sb_jn (a b : List Nat) (r : List (List Nat)) : D.sb (D.jn (a :: b :: r)) = D.sb a ++ (⟨#[47]⟩ ++ D.sb (D.jn (b :: r))) := by
  rw [D.jn, sb_app, show (47 :: D.jn (b :: r)) = [47] ++ D.jn (b :: r) from rfl, sb_app]
  rfl
theorem sb_jn1 (a : List Nat) : D.jn [a] = a := rfl

theorem D.rright_eq (x : D.Rk) : D.rright x = (decide ((D.rkof x).2 = 0) && rS.sm (D.rkof x).1 x) := by
  rw [rS_sm]
  unfold D.rright D.rkof
  by_cases h : D.rerr x = 0
  · rw [if_pos h]; simp [h]
  · rw [if_neg h]; simp [h]
set_option maxHeartbeats 2000000 in
theorem rright_any (x : D.Rk) (w : World) : Calls Tryz.prog 14 #[.agg (rS.v x)] w fun e w' => e = .returned (.bool (D.rright x)) ∧ Below w.heap.size w w' := by
  have f0 := Shp.rd_new (S := rS) w _ 30 x rfl
  have cO := rkof_any x
  have hr := D.rright_eq x
  obtain ⟨⟨y, e⟩, he⟩ : ∃ q, D.rkof x = q := ⟨_, rfl⟩
  rw [he] at cO hr
  simp only at cO hr
  have CO := Lib.hid cO
  clear cO he
  by_cases h : e = 0
  · have HR := Lib.hid (show D.rright x = rS.sm y x by rw [hr]; simp [h])
    clear hr
    subst h
    go_enter Tryz.func14, Tryz.ntmps14
    go_wp2_with (go_at_call 10; (with_reducible refine (CO.out _).mono ?_); rintro e w1 ⟨rfl, b1⟩; have f1 := Shp.rd_on f0 b1; have s1 : w.heap.size < w1.heap.size := by have := b1.size; simp at this; omega)
    go_ret
    exact ⟨by rw [HR.out]; rfl, (below_up (below_alloc_ _ _) (by simp) b1).alloc (by omega) _⟩
  · have HR := Lib.hid (show D.rright x = false by rw [hr]; simp [h])
    clear hr
    go_enter Tryz.func14, Tryz.ntmps14
    go_wp2_with (go_at_call 10; (with_reducible refine (CO.out _).mono ?_); rintro e w1 ⟨rfl, b1⟩; have f1 := Shp.rd_on f0 b1; have s1 : w.heap.size < w1.heap.size := by have := b1.size; simp at this; omega)
    go_ret
    exact ⟨by rw [HR.out]; rfl, (below_up (below_alloc_ _ _) (by simp) b1).alloc (by omega) _⟩
theorem row_lit (w : World) (n : Nat) (z : Int) (b : Nat) (hz : z = b) (hn : n = w.heap.size) : Row (w.alloc (.cells #[.int .u8 z] 5)) (some ⟨n, 0, none⟩) 1 (bys [b]) := by
  subst hz hn
  exact ⟨rfl, fun _ => ⟨_, rfl, by simp, World.news_of_block (heap_alloc_new w _)⟩⟩
set_option maxHeartbeats 8000000 in
theorem digits_any (n : Nat) (h : n < 16) (w : World) : Calls Tryz.prog 37 #[.int .i64 (n : Int)] w fun e w' => e = .returned (.string (D.sb (D.dig n))) ∧ Below w.heap.size w w' := by
  obtain rfl | rfl | rfl | rfl | rfl | rfl | rfl | rfl | rfl | rfl | rfl | rfl | rfl | rfl | rfl | rfl : n = 0 ∨ n = 1 ∨ n = 2 ∨ n = 3 ∨ n = 4 ∨ n = 5 ∨ n = 6 ∨ n = 7 ∨ n = 8 ∨ n = 9 ∨ n = 10 ∨ n = 11 ∨ n = 12 ∨ n = 13 ∨ n = 14 ∨ n = 15 := by omega
  · have y1 : ((0 : Nat) : Int) = 0 := rfl
    rw [y1]
    have h1 := str_run (w.alloc (.cells #[.int .u8 48] 5)) (some ⟨w.heap.size, 0, none⟩) 1 1 [48] (row_lit w _ 48 48 rfl rfl) (by decide)
    go_enter Tryz.func37, Tryz.ntmps37
    go_wp2
    go_ret
    exact ⟨by rfl, below_alloc_ _ _⟩
  · have y1 : ((1 : Nat) : Int) = 1 := rfl
    rw [y1]
    have h1 := str_run (w.alloc (.cells #[.int .u8 49] 5)) (some ⟨w.heap.size, 0, none⟩) 1 1 [49] (row_lit w _ 49 49 rfl rfl) (by decide)
    go_enter Tryz.func37, Tryz.ntmps37
    go_wp2
    go_ret
    exact ⟨by rfl, below_alloc_ _ _⟩
  · have y1 : ((2 : Nat) : Int) = 2 := rfl
    rw [y1]
    have h1 := str_run (w.alloc (.cells #[.int .u8 50] 5)) (some ⟨w.heap.size, 0, none⟩) 1 1 [50] (row_lit w _ 50 50 rfl rfl) (by decide)
    go_enter Tryz.func37, Tryz.ntmps37
    go_wp2
    go_ret
    exact ⟨by rfl, below_alloc_ _ _⟩
  · have y1 : ((3 : Nat) : Int) = 3 := rfl
    rw [y1]
    have h1 := str_run (w.alloc (.cells #[.int .u8 51] 5)) (some ⟨w.heap.size, 0, none⟩) 1 1 [51] (row_lit w _ 51 51 rfl rfl) (by decide)
    go_enter Tryz.func37, Tryz.ntmps37
    go_wp2
    go_ret
    exact ⟨by rfl, below_alloc_ _ _⟩
  · have y1 : ((4 : Nat) : Int) = 4 := rfl
    rw [y1]
    have h1 := str_run (w.alloc (.cells #[.int .u8 52] 5)) (some ⟨w.heap.size, 0, none⟩) 1 1 [52] (row_lit w _ 52 52 rfl rfl) (by decide)
    go_enter Tryz.func37, Tryz.ntmps37
    go_wp2
    go_ret
    exact ⟨by rfl, below_alloc_ _ _⟩
  · have y1 : ((5 : Nat) : Int) = 5 := rfl
    rw [y1]
    have h1 := str_run (w.alloc (.cells #[.int .u8 53] 5)) (some ⟨w.heap.size, 0, none⟩) 1 1 [53] (row_lit w _ 53 53 rfl rfl) (by decide)
    go_enter Tryz.func37, Tryz.ntmps37
    go_wp2
    go_ret
    exact ⟨by rfl, below_alloc_ _ _⟩
  · have y1 : ((6 : Nat) : Int) = 6 := rfl
    rw [y1]
    have h1 := str_run (w.alloc (.cells #[.int .u8 54] 5)) (some ⟨w.heap.size, 0, none⟩) 1 1 [54] (row_lit w _ 54 54 rfl rfl) (by decide)
    go_enter Tryz.func37, Tryz.ntmps37
    go_wp2
    go_ret
    exact ⟨by rfl, below_alloc_ _ _⟩
  · have y1 : ((7 : Nat) : Int) = 7 := rfl
    rw [y1]
    have h1 := str_run (w.alloc (.cells #[.int .u8 55] 5)) (some ⟨w.heap.size, 0, none⟩) 1 1 [55] (row_lit w _ 55 55 rfl rfl) (by decide)
    go_enter Tryz.func37, Tryz.ntmps37
    go_wp2
    go_ret
    exact ⟨by rfl, below_alloc_ _ _⟩
  · have y1 : ((8 : Nat) : Int) = 8 := rfl
    rw [y1]
    have h1 := str_run (w.alloc (.cells #[.int .u8 56] 5)) (some ⟨w.heap.size, 0, none⟩) 1 1 [56] (row_lit w _ 56 56 rfl rfl) (by decide)
    go_enter Tryz.func37, Tryz.ntmps37
    go_wp2
    go_ret
    exact ⟨by rfl, below_alloc_ _ _⟩
  · have y1 : ((9 : Nat) : Int) = 9 := rfl
    rw [y1]
    have h1 := str_run (w.alloc (.cells #[.int .u8 57] 5)) (some ⟨w.heap.size, 0, none⟩) 1 1 [57] (row_lit w _ 57 57 rfl rfl) (by decide)
    go_enter Tryz.func37, Tryz.ntmps37
    go_wp2
    go_ret
    exact ⟨by rfl, below_alloc_ _ _⟩
  · have y1 : ((10 : Nat) : Int) = 10 := rfl
    rw [y1]
    have h1 := str_run (w.alloc (.cells #[.int .u8 48] 5)) (some ⟨w.heap.size, 0, none⟩) 1 1 [48] (row_lit w _ 48 48 rfl rfl) (by decide)
    have h2 := str_run ((w.alloc (.cells #[.int .u8 48] 5)).alloc (.cells #[.int .u8 49] 5)) (some ⟨w.heap.size + 1, 0, none⟩) 1 1 [49] (row_lit _ _ 49 49 rfl (by simp)) (by decide)
    have k1 : (D.sb [48]).size ≤ 100 := by decide
    have k2 : (D.sb [49]).size ≤ 100 := by decide
    go_enter Tryz.func37, Tryz.ntmps37
    go_wp2
    go_ret
    exact ⟨by rfl, (below_alloc_ _ _).alloc (by simp) _⟩
  · have y1 : ((11 : Nat) : Int) = 11 := rfl
    rw [y1]
    have h1 := str_run (w.alloc (.cells #[.int .u8 49] 5)) (some ⟨w.heap.size, 0, none⟩) 1 1 [49] (row_lit w _ 49 49 rfl rfl) (by decide)
    have h2 := str_run ((w.alloc (.cells #[.int .u8 49] 5)).alloc (.cells #[.int .u8 49] 5)) (some ⟨w.heap.size + 1, 0, none⟩) 1 1 [49] (row_lit _ _ 49 49 rfl (by simp)) (by decide)
    have k1 : (D.sb [49]).size ≤ 100 := by decide
    have k2 : (D.sb [49]).size ≤ 100 := by decide
    go_enter Tryz.func37, Tryz.ntmps37
    go_wp2
    go_ret
    exact ⟨by rfl, (below_alloc_ _ _).alloc (by simp) _⟩
  · have y1 : ((12 : Nat) : Int) = 12 := rfl
    rw [y1]
    have h1 := str_run (w.alloc (.cells #[.int .u8 50] 5)) (some ⟨w.heap.size, 0, none⟩) 1 1 [50] (row_lit w _ 50 50 rfl rfl) (by decide)
    have h2 := str_run ((w.alloc (.cells #[.int .u8 50] 5)).alloc (.cells #[.int .u8 49] 5)) (some ⟨w.heap.size + 1, 0, none⟩) 1 1 [49] (row_lit _ _ 49 49 rfl (by simp)) (by decide)
    have k1 : (D.sb [50]).size ≤ 100 := by decide
    have k2 : (D.sb [49]).size ≤ 100 := by decide
    go_enter Tryz.func37, Tryz.ntmps37
    go_wp2
    go_ret
    exact ⟨by rfl, (below_alloc_ _ _).alloc (by simp) _⟩
  · have y1 : ((13 : Nat) : Int) = 13 := rfl
    rw [y1]
    have h1 := str_run (w.alloc (.cells #[.int .u8 51] 5)) (some ⟨w.heap.size, 0, none⟩) 1 1 [51] (row_lit w _ 51 51 rfl rfl) (by decide)
    have h2 := str_run ((w.alloc (.cells #[.int .u8 51] 5)).alloc (.cells #[.int .u8 49] 5)) (some ⟨w.heap.size + 1, 0, none⟩) 1 1 [49] (row_lit _ _ 49 49 rfl (by simp)) (by decide)
    have k1 : (D.sb [51]).size ≤ 100 := by decide
    have k2 : (D.sb [49]).size ≤ 100 := by decide
    go_enter Tryz.func37, Tryz.ntmps37
    go_wp2
    go_ret
    exact ⟨by rfl, (below_alloc_ _ _).alloc (by simp) _⟩
  · have y1 : ((14 : Nat) : Int) = 14 := rfl
    rw [y1]
    have h1 := str_run (w.alloc (.cells #[.int .u8 52] 5)) (some ⟨w.heap.size, 0, none⟩) 1 1 [52] (row_lit w _ 52 52 rfl rfl) (by decide)
    have h2 := str_run ((w.alloc (.cells #[.int .u8 52] 5)).alloc (.cells #[.int .u8 49] 5)) (some ⟨w.heap.size + 1, 0, none⟩) 1 1 [49] (row_lit _ _ 49 49 rfl (by simp)) (by decide)
    have k1 : (D.sb [52]).size ≤ 100 := by decide
    have k2 : (D.sb [49]).size ≤ 100 := by decide
    go_enter Tryz.func37, Tryz.ntmps37
    go_wp2
    go_ret
    exact ⟨by rfl, (below_alloc_ _ _).alloc (by simp) _⟩
  · have y1 : ((15 : Nat) : Int) = 15 := rfl
    rw [y1]
    have h1 := str_run (w.alloc (.cells #[.int .u8 53] 5)) (some ⟨w.heap.size, 0, none⟩) 1 1 [53] (row_lit w _ 53 53 rfl rfl) (by decide)
    have h2 := str_run ((w.alloc (.cells #[.int .u8 53] 5)).alloc (.cells #[.int .u8 49] 5)) (some ⟨w.heap.size + 1, 0, none⟩) 1 1 [49] (row_lit _ _ 49 49 rfl (by simp)) (by decide)
    have k1 : (D.sb [53]).size ≤ 100 := by decide
    have k2 : (D.sb [49]).size ≤ 100 := by decide
    go_enter Tryz.func37, Tryz.ntmps37
    go_wp2
    go_ret
    exact ⟨by rfl, (below_alloc_ _ _).alloc (by simp) _⟩
set_option maxHeartbeats 8000000 in
theorem rtext_1 (x : D.Ky) (w : World) (h : D.kright x = true) (hk : x.k = 1) : Calls Tryz.prog 15 #[.agg (rS.v (D.toR x))] w fun e w' => e = .returned (.string (D.sb (D.ktx x))) ∧ Below w.heap.size w w' := by
  have hR := kr_of h
  have hRp := hR.p
  have hRa := hR.a
  have e : D.kparts x = [[112], D.dig x.p] := by
    unfold D.kparts
    rw [hk]
    rfl
  have hs1 : (D.sb (D.dig x.p)).size ≤ 100 := by rw [D.sb_len]; have := dig_len x.p; omega
  have CD := Lib.hid (fun w => digits_any x.p (by omega) w)
  have HS : Kept (D.sb (D.ktx x) = (⟨#[112]⟩ : ByteArray) ++ ⟨#[47]⟩ ++ D.sb (D.dig x.p)) := ⟨by
    rw [D.ktx, if_pos h, e]
    simp only [sb_jn, sb_jn1, ByteArray.append_assoc]
    rfl⟩
  obtain ⟨A, hA⟩ : ∃ z, D.sb (D.dig x.p) = z := ⟨_, rfl⟩
  simp only [hA] at *
  obtain ⟨W0, hW0⟩ : ∃ W, w.alloc (.cells (rS.v (D.toR x)) 30) = W := ⟨_, rfl⟩
  have f0 : rS.rd W0 ⟨w.heap.size, 0, none⟩ = some (D.toR x) := by rw [← hW0]; exact Shp.rd_new _ _ _ _ rfl
  have z0 : Below w.heap.size w W0 := by rw [← hW0]; exact below_alloc_ _ _
  have s0 : w.heap.size < W0.heap.size := by rw [← hW0]; simp
  obtain ⟨c0, c1, c2, c3, c4⟩ := rf0 f0
  have r0 : (D.toR x).k = (1 : Int) := by show (x.k : Int) = 1; rw [hk]; rfl
  have r1 : (D.toR x).p = (x.p : Int) := rfl
  have r2 : (D.toR x).a = (x.a : Int) := rfl
  have r3 : (D.toR x).n = x.n := rfl
  have r4 : (D.toR x).t = x.t := rfl
  rw [r0] at c0
  rw [r1] at c1
  rw [r2] at c2
  rw [r3] at c3
  rw [r4] at c4
  have CU := Lib.hid (fun w => (show Calls Tryz.prog 30 #[.int .i64 1] w fun e w' => e = .returned (.tuple #[.int .i64 0, .bool false, .bool false]) ∧ w = w' from uses_any 1 w))
  go_enter Tryz.func15, Tryz.ntmps15
  go_wp2_with fail
  try rw [hW0]
  clear hW0
  go_wp2_with (go_at_call 30; (with_reducible refine (CU.out _).mono ?_); rintro e w1 ⟨rfl, rfl⟩)
  refine wp_region_ext (by kernel_rfl) (by kernel_rfl) ?_
  repeat (go_big_quiet_step ((go_at_call 37; with_reducible exact calls_ext (CD.out _))))
  refine wpQuiet_nil ?_
  intro w2 hw2
  have b2 := ext_to hw2
  clear hw2
  have f2 := Shp.rd_on f0 b2
  have z2 := below_up z0 z0.size b2
  clear c0 c1 c2 c3 c4
  obtain ⟨c0, c1, c2, c3, c4⟩ := rf0 f2
  rw [r0] at c0
  rw [r1] at c1
  rw [r2] at c2
  rw [r3] at c3
  rw [r4] at c4
  go_wp2
  go_ret
  exact ⟨by rw [HS.out]; rfl, z2⟩
set_option maxHeartbeats 8000000 in
theorem rtext_2 (x : D.Ky) (w : World) (h : D.kright x = true) (hk : x.k = 2) : Calls Tryz.prog 15 #[.agg (rS.v (D.toR x))] w fun e w' => e = .returned (.string (D.sb (D.ktx x))) ∧ Below w.heap.size w w' := by
  have hR := kr_of h
  have hRp := hR.p
  have hRa := hR.a
  have e : D.kparts x = [[103], D.dig x.p, D.dig x.a] := by
    unfold D.kparts
    rw [hk]
    rfl
  have hs1 : (D.sb (D.dig x.p)).size ≤ 100 := by rw [D.sb_len]; have := dig_len x.p; omega
  have hs2 : (D.sb (D.dig x.a)).size ≤ 100 := by rw [D.sb_len]; have := dig_len x.a; omega
  have CD := Lib.hid (fun w => digits_any x.p (by omega) w)
  have CD2 := Lib.hid (fun w => digits_any x.a (by omega) w)
  have HS : Kept (D.sb (D.ktx x) = (⟨#[103]⟩ : ByteArray) ++ ⟨#[47]⟩ ++ D.sb (D.dig x.p) ++ ⟨#[47]⟩ ++ D.sb (D.dig x.a)) := ⟨by
    rw [D.ktx, if_pos h, e]
    simp only [sb_jn, sb_jn1, ByteArray.append_assoc]
    rfl⟩
  obtain ⟨A, hA⟩ : ∃ z, D.sb (D.dig x.p) = z := ⟨_, rfl⟩
  obtain ⟨B, hB⟩ : ∃ z, D.sb (D.dig x.a) = z := ⟨_, rfl⟩
  simp only [hA, hB] at *
  obtain ⟨W0, hW0⟩ : ∃ W, w.alloc (.cells (rS.v (D.toR x)) 30) = W := ⟨_, rfl⟩
  have f0 : rS.rd W0 ⟨w.heap.size, 0, none⟩ = some (D.toR x) := by rw [← hW0]; exact Shp.rd_new _ _ _ _ rfl
  have z0 : Below w.heap.size w W0 := by rw [← hW0]; exact below_alloc_ _ _
  have s0 : w.heap.size < W0.heap.size := by rw [← hW0]; simp
  obtain ⟨c0, c1, c2, c3, c4⟩ := rf0 f0
  have r0 : (D.toR x).k = (2 : Int) := by show (x.k : Int) = 2; rw [hk]; rfl
  have r1 : (D.toR x).p = (x.p : Int) := rfl
  have r2 : (D.toR x).a = (x.a : Int) := rfl
  have r3 : (D.toR x).n = x.n := rfl
  have r4 : (D.toR x).t = x.t := rfl
  rw [r0] at c0
  rw [r1] at c1
  rw [r2] at c2
  rw [r3] at c3
  rw [r4] at c4
  have CU := Lib.hid (fun w => (show Calls Tryz.prog 30 #[.int .i64 2] w fun e w' => e = .returned (.tuple #[.int .i64 16, .bool false, .bool false]) ∧ w = w' from uses_any 2 w))
  go_enter Tryz.func15, Tryz.ntmps15
  go_wp2_with fail
  try rw [hW0]
  clear hW0
  go_wp2_with (go_at_call 30; (with_reducible refine (CU.out _).mono ?_); rintro e w1 ⟨rfl, rfl⟩)
  refine wp_region_ext (by kernel_rfl) (by kernel_rfl) ?_
  repeat (go_big_quiet_step ((go_at_call 37; with_reducible exact calls_ext (CD.out _))))
  refine wpQuiet_nil ?_
  intro w2 hw2
  have b2 := ext_to hw2
  clear hw2
  have f2 := Shp.rd_on f0 b2
  have z2 := below_up z0 z0.size b2
  clear c0 c1 c2 c3 c4
  obtain ⟨c0, c1, c2, c3, c4⟩ := rf0 f2
  rw [r0] at c0
  rw [r1] at c1
  rw [r2] at c2
  rw [r3] at c3
  rw [r4] at c4
  go_wp2_with (first
    | (go_at_call 37; (with_reducible refine (CD2.out _).mono ?_); rintro e w3 ⟨rfl, b3⟩; have f3 := Shp.rd_on f2 b3; have z3 := below_up z2 z2.size b3; obtain ⟨d0, d1, d2, d3, d4⟩ := rf0 f3; rw [r3] at d3; rw [r4] at d4))
  go_ret
  exact ⟨by rw [HS.out]; rfl, z3⟩
set_option maxHeartbeats 8000000 in
theorem rtext_3 (x : D.Ky) (w : World) (h : D.kright x = true) (hk : x.k = 3) : Calls Tryz.prog 15 #[.agg (rS.v (D.toR x))] w fun e w' => e = .returned (.string (D.sb (D.ktx x))) ∧ Below w.heap.size w w' := by
  have hR := kr_of h
  have hRp := hR.p
  have hRa := hR.a
  have e : D.kparts x = [[108], D.dig x.p, D.tx' x.t] := by
    unfold D.kparts
    rw [hk]
    rfl
  have hs1 : (D.sb (D.dig x.p)).size ≤ 100 := by rw [D.sb_len]; have := dig_len x.p; omega
  have hs4 : (D.sb (D.tx' x.t)).size ≤ 100 := by rw [D.sb_len]; have := tx_len' x.t; omega
  have CD := Lib.hid (fun w => digits_any x.p (by omega) w)
  have ht : D.right x.t = true := by
    have hx := h
    simp only [D.kright, decide_eq_true_eq] at hx
    exact ((D.err_ok hx.1).2.2.2.2 (by rw [hk]; rfl)).2
  obtain ⟨q, hq1, hq2, hq3⟩ := D.tx_can ht
  have hpt : D.pt x.t = some q := by rw [← hq2]; exact D.pt_tb hq1
  have CO := Lib.hid (fun w => (show Calls Tryz.prog 32 #[.agg (nc x.t)] w fun e w' => e = .returned (.tuple #[.agg #[.string (D.sb q.l), .string (D.sb q.s), .string (D.sb q.r)], .bool true]) ∧ Below w.heap.size w w' from by have := rof_any x.t w; rw [D.rof_eq, hpt] at this; exact this))
  have CX := Lib.hid (fun w => (show Calls Tryz.prog 38 #[.agg #[.string (D.sb q.l), .string (D.sb q.s), .string (D.sb q.r)]] w fun e w' => e = .returned (.string (D.sb (D.tx' x.t))) ∧ Below w.heap.size w w' from by rw [hq3]; exact rtx_can hq1 w))
  obtain ⟨ta, hta⟩ : ∃ a, D.sb q.l = a := ⟨_, rfl⟩
  obtain ⟨tb, htb⟩ : ∃ a, D.sb q.s = a := ⟨_, rfl⟩
  obtain ⟨tc, htc⟩ : ∃ a, D.sb q.r = a := ⟨_, rfl⟩
  simp only [hta, htb, htc] at CO CX
  have HS : Kept (D.sb (D.ktx x) = (⟨#[108]⟩ : ByteArray) ++ ⟨#[47]⟩ ++ D.sb (D.dig x.p) ++ ⟨#[47]⟩ ++ D.sb (D.tx' x.t)) := ⟨by
    rw [D.ktx, if_pos h, e]
    simp only [sb_jn, sb_jn1, ByteArray.append_assoc]
    rfl⟩
  obtain ⟨A, hA⟩ : ∃ z, D.sb (D.dig x.p) = z := ⟨_, rfl⟩
  obtain ⟨E, hE⟩ : ∃ z, D.sb (D.tx' x.t) = z := ⟨_, rfl⟩
  simp only [hA, hE] at *
  obtain ⟨W0, hW0⟩ : ∃ W, w.alloc (.cells (rS.v (D.toR x)) 30) = W := ⟨_, rfl⟩
  have f0 : rS.rd W0 ⟨w.heap.size, 0, none⟩ = some (D.toR x) := by rw [← hW0]; exact Shp.rd_new _ _ _ _ rfl
  have z0 : Below w.heap.size w W0 := by rw [← hW0]; exact below_alloc_ _ _
  have s0 : w.heap.size < W0.heap.size := by rw [← hW0]; simp
  obtain ⟨c0, c1, c2, c3, c4⟩ := rf0 f0
  have r0 : (D.toR x).k = (3 : Int) := by show (x.k : Int) = 3; rw [hk]; rfl
  have r1 : (D.toR x).p = (x.p : Int) := rfl
  have r2 : (D.toR x).a = (x.a : Int) := rfl
  have r3 : (D.toR x).n = x.n := rfl
  have r4 : (D.toR x).t = x.t := rfl
  rw [r0] at c0
  rw [r1] at c1
  rw [r2] at c2
  rw [r3] at c3
  rw [r4] at c4
  have CU := Lib.hid (fun w => (show Calls Tryz.prog 30 #[.int .i64 3] w fun e w' => e = .returned (.tuple #[.int .i64 0, .bool false, .bool true]) ∧ w = w' from uses_any 3 w))
  go_enter Tryz.func15, Tryz.ntmps15
  go_wp2_with fail
  try rw [hW0]
  clear hW0
  go_wp2_with (go_at_call 30; (with_reducible refine (CU.out _).mono ?_); rintro e w1 ⟨rfl, rfl⟩)
  refine wp_region_ext (by kernel_rfl) (by kernel_rfl) ?_
  repeat (go_big_quiet_step ((go_at_call 37; with_reducible exact calls_ext (CD.out _))))
  refine wpQuiet_nil ?_
  intro w2 hw2
  have b2 := ext_to hw2
  clear hw2
  have f2 := Shp.rd_on f0 b2
  have z2 := below_up z0 z0.size b2
  clear c0 c1 c2 c3 c4
  obtain ⟨c0, c1, c2, c3, c4⟩ := rf0 f2
  rw [r0] at c0
  rw [r1] at c1
  rw [r2] at c2
  rw [r3] at c3
  rw [r4] at c4
  go_wp2_with (first
    | (go_at_call 32; (with_reducible refine (CO.out _).mono ?_); rintro e w5 ⟨rfl, b5⟩; have f5 := Shp.rd_on f2 b5; have z5 := below_up z2 z2.size b5; obtain ⟨d0, d1, d2, d3, d4⟩ := rf0 f5; rw [r3] at d3; rw [r4] at d4; have z5' := z5.alloc z5.size (.cells #[.string ta, .string tb, .string tc] 71))
    | (go_at_call 38; (with_reducible refine (CX.out _).mono ?_); rintro e w6 ⟨rfl, b6⟩; have z6 := below_up z5' z5'.size b6))
  go_ret
  exact ⟨by rw [HS.out]; rfl, z6⟩
set_option maxHeartbeats 8000000 in
theorem rtext_4 (x : D.Ky) (w : World) (h : D.kright x = true) (hk : x.k = 4) : Calls Tryz.prog 15 #[.agg (rS.v (D.toR x))] w fun e w' => e = .returned (.string (D.sb (D.ktx x))) ∧ Below w.heap.size w w' := by
  have hR := kr_of h
  have hRp := hR.p
  have hRa := hR.a
  have e : D.kparts x = [[98], D.dig x.p, D.dig x.a] := by
    unfold D.kparts
    rw [hk]
    rfl
  have hs1 : (D.sb (D.dig x.p)).size ≤ 100 := by rw [D.sb_len]; have := dig_len x.p; omega
  have hs2 : (D.sb (D.dig x.a)).size ≤ 100 := by rw [D.sb_len]; have := dig_len x.a; omega
  have CD := Lib.hid (fun w => digits_any x.p (by omega) w)
  have CD2 := Lib.hid (fun w => digits_any x.a (by omega) w)
  have HS : Kept (D.sb (D.ktx x) = (⟨#[98]⟩ : ByteArray) ++ ⟨#[47]⟩ ++ D.sb (D.dig x.p) ++ ⟨#[47]⟩ ++ D.sb (D.dig x.a)) := ⟨by
    rw [D.ktx, if_pos h, e]
    simp only [sb_jn, sb_jn1, ByteArray.append_assoc]
    rfl⟩
  obtain ⟨A, hA⟩ : ∃ z, D.sb (D.dig x.p) = z := ⟨_, rfl⟩
  obtain ⟨B, hB⟩ : ∃ z, D.sb (D.dig x.a) = z := ⟨_, rfl⟩
  simp only [hA, hB] at *
  obtain ⟨W0, hW0⟩ : ∃ W, w.alloc (.cells (rS.v (D.toR x)) 30) = W := ⟨_, rfl⟩
  have f0 : rS.rd W0 ⟨w.heap.size, 0, none⟩ = some (D.toR x) := by rw [← hW0]; exact Shp.rd_new _ _ _ _ rfl
  have z0 : Below w.heap.size w W0 := by rw [← hW0]; exact below_alloc_ _ _
  have s0 : w.heap.size < W0.heap.size := by rw [← hW0]; simp
  obtain ⟨c0, c1, c2, c3, c4⟩ := rf0 f0
  have r0 : (D.toR x).k = (4 : Int) := by show (x.k : Int) = 4; rw [hk]; rfl
  have r1 : (D.toR x).p = (x.p : Int) := rfl
  have r2 : (D.toR x).a = (x.a : Int) := rfl
  have r3 : (D.toR x).n = x.n := rfl
  have r4 : (D.toR x).t = x.t := rfl
  rw [r0] at c0
  rw [r1] at c1
  rw [r2] at c2
  rw [r3] at c3
  rw [r4] at c4
  have CU := Lib.hid (fun w => (show Calls Tryz.prog 30 #[.int .i64 4] w fun e w' => e = .returned (.tuple #[.int .i64 4, .bool false, .bool false]) ∧ w = w' from uses_any 4 w))
  go_enter Tryz.func15, Tryz.ntmps15
  go_wp2_with fail
  try rw [hW0]
  clear hW0
  go_wp2_with (go_at_call 30; (with_reducible refine (CU.out _).mono ?_); rintro e w1 ⟨rfl, rfl⟩)
  refine wp_region_ext (by kernel_rfl) (by kernel_rfl) ?_
  repeat (go_big_quiet_step ((go_at_call 37; with_reducible exact calls_ext (CD.out _))))
  refine wpQuiet_nil ?_
  intro w2 hw2
  have b2 := ext_to hw2
  clear hw2
  have f2 := Shp.rd_on f0 b2
  have z2 := below_up z0 z0.size b2
  clear c0 c1 c2 c3 c4
  obtain ⟨c0, c1, c2, c3, c4⟩ := rf0 f2
  rw [r0] at c0
  rw [r1] at c1
  rw [r2] at c2
  rw [r3] at c3
  rw [r4] at c4
  go_wp2_with (first
    | (go_at_call 37; (with_reducible refine (CD2.out _).mono ?_); rintro e w3 ⟨rfl, b3⟩; have f3 := Shp.rd_on f2 b3; have z3 := below_up z2 z2.size b3; obtain ⟨d0, d1, d2, d3, d4⟩ := rf0 f3; rw [r3] at d3; rw [r4] at d4))
  go_ret
  exact ⟨by rw [HS.out]; rfl, z3⟩
set_option maxHeartbeats 8000000 in
theorem rtext_5 (x : D.Ky) (w : World) (h : D.kright x = true) (hk : x.k = 5) : Calls Tryz.prog 15 #[.agg (rS.v (D.toR x))] w fun e w' => e = .returned (.string (D.sb (D.ktx x))) ∧ Below w.heap.size w w' := by
  have hR := kr_of h
  have hRp := hR.p
  have hRa := hR.a
  have e : D.kparts x = [[115], D.dig x.p, D.dig x.a, Nm.D.txt x.n] := by
    unfold D.kparts
    rw [hk]
    rfl
  have hs1 : (D.sb (D.dig x.p)).size ≤ 100 := by rw [D.sb_len]; have := dig_len x.p; omega
  have hs2 : (D.sb (D.dig x.a)).size ≤ 100 := by rw [D.sb_len]; have := dig_len x.a; omega
  have hs3 : (D.sb (Nm.D.txt x.n)).size ≤ 100 := by rw [D.sb_len]; have := txt_len' x.n; omega
  have CD := Lib.hid (fun w => digits_any x.p (by omega) w)
  have CD2 := Lib.hid (fun w => digits_any x.a (by omega) w)
  have CN := Lib.hid (fun w => (show Calls Tryz.prog 31 #[.agg (Nm.nc x.n)] w fun e w' => e = .returned (.string (D.sb (Nm.D.txt x.n))) ∧ Below w.heap.size w w' from Nm.ref_text x.n w))
  have HS : Kept (D.sb (D.ktx x) = (⟨#[115]⟩ : ByteArray) ++ ⟨#[47]⟩ ++ D.sb (D.dig x.p) ++ ⟨#[47]⟩ ++ D.sb (D.dig x.a) ++ ⟨#[47]⟩ ++ D.sb (Nm.D.txt x.n)) := ⟨by
    rw [D.ktx, if_pos h, e]
    simp only [sb_jn, sb_jn1, ByteArray.append_assoc]
    rfl⟩
  obtain ⟨A, hA⟩ : ∃ z, D.sb (D.dig x.p) = z := ⟨_, rfl⟩
  obtain ⟨B, hB⟩ : ∃ z, D.sb (D.dig x.a) = z := ⟨_, rfl⟩
  obtain ⟨C, hC⟩ : ∃ z, D.sb (Nm.D.txt x.n) = z := ⟨_, rfl⟩
  simp only [hA, hB, hC] at *
  obtain ⟨W0, hW0⟩ : ∃ W, w.alloc (.cells (rS.v (D.toR x)) 30) = W := ⟨_, rfl⟩
  have f0 : rS.rd W0 ⟨w.heap.size, 0, none⟩ = some (D.toR x) := by rw [← hW0]; exact Shp.rd_new _ _ _ _ rfl
  have z0 : Below w.heap.size w W0 := by rw [← hW0]; exact below_alloc_ _ _
  have s0 : w.heap.size < W0.heap.size := by rw [← hW0]; simp
  obtain ⟨c0, c1, c2, c3, c4⟩ := rf0 f0
  have r0 : (D.toR x).k = (5 : Int) := by show (x.k : Int) = 5; rw [hk]; rfl
  have r1 : (D.toR x).p = (x.p : Int) := rfl
  have r2 : (D.toR x).a = (x.a : Int) := rfl
  have r3 : (D.toR x).n = x.n := rfl
  have r4 : (D.toR x).t = x.t := rfl
  rw [r0] at c0
  rw [r1] at c1
  rw [r2] at c2
  rw [r3] at c3
  rw [r4] at c4
  have CU := Lib.hid (fun w => (show Calls Tryz.prog 30 #[.int .i64 5] w fun e w' => e = .returned (.tuple #[.int .i64 4, .bool true, .bool false]) ∧ w = w' from uses_any 5 w))
  go_enter Tryz.func15, Tryz.ntmps15
  go_wp2_with fail
  try rw [hW0]
  clear hW0
  go_wp2_with (go_at_call 30; (with_reducible refine (CU.out _).mono ?_); rintro e w1 ⟨rfl, rfl⟩)
  refine wp_region_ext (by kernel_rfl) (by kernel_rfl) ?_
  repeat (go_big_quiet_step ((go_at_call 37; with_reducible exact calls_ext (CD.out _))))
  refine wpQuiet_nil ?_
  intro w2 hw2
  have b2 := ext_to hw2
  clear hw2
  have f2 := Shp.rd_on f0 b2
  have z2 := below_up z0 z0.size b2
  clear c0 c1 c2 c3 c4
  obtain ⟨c0, c1, c2, c3, c4⟩ := rf0 f2
  rw [r0] at c0
  rw [r1] at c1
  rw [r2] at c2
  rw [r3] at c3
  rw [r4] at c4
  go_wp2_with (first
    | (go_at_call 37; (with_reducible refine (CD2.out _).mono ?_); rintro e w3 ⟨rfl, b3⟩; have f3 := Shp.rd_on f2 b3; have z3 := below_up z2 z2.size b3; obtain ⟨d0, d1, d2, d3, d4⟩ := rf0 f3; rw [r3] at d3; rw [r4] at d4)
    | (go_at_call 31; (with_reducible refine (CN.out _).mono ?_); rintro e w4 ⟨rfl, b4⟩; have f4 := Shp.rd_on f3 b4; have z4 := below_up z3 z3.size b4; obtain ⟨d0, d1, d2, d3, d4⟩ := rf0 f4; rw [r3] at d3; rw [r4] at d4))
  go_ret
  exact ⟨by rw [HS.out]; rfl, z4⟩
set_option maxHeartbeats 8000000 in
theorem rtext_6 (x : D.Ky) (w : World) (h : D.kright x = true) (hk : x.k = 6) : Calls Tryz.prog 15 #[.agg (rS.v (D.toR x))] w fun e w' => e = .returned (.string (D.sb (D.ktx x))) ∧ Below w.heap.size w w' := by
  have hR := kr_of h
  have hRp := hR.p
  have hRa := hR.a
  have e : D.kparts x = [[116], D.dig x.p, D.dig x.a, Nm.D.txt x.n, D.tx' x.t] := by
    unfold D.kparts
    rw [hk]
    rfl
  have hs1 : (D.sb (D.dig x.p)).size ≤ 100 := by rw [D.sb_len]; have := dig_len x.p; omega
  have hs2 : (D.sb (D.dig x.a)).size ≤ 100 := by rw [D.sb_len]; have := dig_len x.a; omega
  have hs3 : (D.sb (Nm.D.txt x.n)).size ≤ 100 := by rw [D.sb_len]; have := txt_len' x.n; omega
  have hs4 : (D.sb (D.tx' x.t)).size ≤ 100 := by rw [D.sb_len]; have := tx_len' x.t; omega
  have CD := Lib.hid (fun w => digits_any x.p (by omega) w)
  have CD2 := Lib.hid (fun w => digits_any x.a (by omega) w)
  have CN := Lib.hid (fun w => (show Calls Tryz.prog 31 #[.agg (Nm.nc x.n)] w fun e w' => e = .returned (.string (D.sb (Nm.D.txt x.n))) ∧ Below w.heap.size w w' from Nm.ref_text x.n w))
  have ht : D.right x.t = true := by
    have hx := h
    simp only [D.kright, decide_eq_true_eq] at hx
    exact ((D.err_ok hx.1).2.2.2.2 (by rw [hk]; rfl)).2
  obtain ⟨q, hq1, hq2, hq3⟩ := D.tx_can ht
  have hpt : D.pt x.t = some q := by rw [← hq2]; exact D.pt_tb hq1
  have CO := Lib.hid (fun w => (show Calls Tryz.prog 32 #[.agg (nc x.t)] w fun e w' => e = .returned (.tuple #[.agg #[.string (D.sb q.l), .string (D.sb q.s), .string (D.sb q.r)], .bool true]) ∧ Below w.heap.size w w' from by have := rof_any x.t w; rw [D.rof_eq, hpt] at this; exact this))
  have CX := Lib.hid (fun w => (show Calls Tryz.prog 38 #[.agg #[.string (D.sb q.l), .string (D.sb q.s), .string (D.sb q.r)]] w fun e w' => e = .returned (.string (D.sb (D.tx' x.t))) ∧ Below w.heap.size w w' from by rw [hq3]; exact rtx_can hq1 w))
  obtain ⟨ta, hta⟩ : ∃ a, D.sb q.l = a := ⟨_, rfl⟩
  obtain ⟨tb, htb⟩ : ∃ a, D.sb q.s = a := ⟨_, rfl⟩
  obtain ⟨tc, htc⟩ : ∃ a, D.sb q.r = a := ⟨_, rfl⟩
  simp only [hta, htb, htc] at CO CX
  have HS : Kept (D.sb (D.ktx x) = (⟨#[116]⟩ : ByteArray) ++ ⟨#[47]⟩ ++ D.sb (D.dig x.p) ++ ⟨#[47]⟩ ++ D.sb (D.dig x.a) ++ ⟨#[47]⟩ ++ D.sb (Nm.D.txt x.n) ++ ⟨#[47]⟩ ++ D.sb (D.tx' x.t)) := ⟨by
    rw [D.ktx, if_pos h, e]
    simp only [sb_jn, sb_jn1, ByteArray.append_assoc]
    rfl⟩
  obtain ⟨A, hA⟩ : ∃ z, D.sb (D.dig x.p) = z := ⟨_, rfl⟩
  obtain ⟨B, hB⟩ : ∃ z, D.sb (D.dig x.a) = z := ⟨_, rfl⟩
  obtain ⟨C, hC⟩ : ∃ z, D.sb (Nm.D.txt x.n) = z := ⟨_, rfl⟩
  obtain ⟨E, hE⟩ : ∃ z, D.sb (D.tx' x.t) = z := ⟨_, rfl⟩
  simp only [hA, hB, hC, hE] at *
  obtain ⟨W0, hW0⟩ : ∃ W, w.alloc (.cells (rS.v (D.toR x)) 30) = W := ⟨_, rfl⟩
  have f0 : rS.rd W0 ⟨w.heap.size, 0, none⟩ = some (D.toR x) := by rw [← hW0]; exact Shp.rd_new _ _ _ _ rfl
  have z0 : Below w.heap.size w W0 := by rw [← hW0]; exact below_alloc_ _ _
  have s0 : w.heap.size < W0.heap.size := by rw [← hW0]; simp
  obtain ⟨c0, c1, c2, c3, c4⟩ := rf0 f0
  have r0 : (D.toR x).k = (6 : Int) := by show (x.k : Int) = 6; rw [hk]; rfl
  have r1 : (D.toR x).p = (x.p : Int) := rfl
  have r2 : (D.toR x).a = (x.a : Int) := rfl
  have r3 : (D.toR x).n = x.n := rfl
  have r4 : (D.toR x).t = x.t := rfl
  rw [r0] at c0
  rw [r1] at c1
  rw [r2] at c2
  rw [r3] at c3
  rw [r4] at c4
  have CU := Lib.hid (fun w => (show Calls Tryz.prog 30 #[.int .i64 6] w fun e w' => e = .returned (.tuple #[.int .i64 4, .bool true, .bool true]) ∧ w = w' from uses_any 6 w))
  go_enter Tryz.func15, Tryz.ntmps15
  go_wp2_with fail
  try rw [hW0]
  clear hW0
  go_wp2_with (go_at_call 30; (with_reducible refine (CU.out _).mono ?_); rintro e w1 ⟨rfl, rfl⟩)
  refine wp_region_ext (by kernel_rfl) (by kernel_rfl) ?_
  repeat (go_big_quiet_step ((go_at_call 37; with_reducible exact calls_ext (CD.out _))))
  refine wpQuiet_nil ?_
  intro w2 hw2
  have b2 := ext_to hw2
  clear hw2
  have f2 := Shp.rd_on f0 b2
  have z2 := below_up z0 z0.size b2
  clear c0 c1 c2 c3 c4
  obtain ⟨c0, c1, c2, c3, c4⟩ := rf0 f2
  rw [r0] at c0
  rw [r1] at c1
  rw [r2] at c2
  rw [r3] at c3
  rw [r4] at c4
  go_wp2_with (first
    | (go_at_call 37; (with_reducible refine (CD2.out _).mono ?_); rintro e w3 ⟨rfl, b3⟩; have f3 := Shp.rd_on f2 b3; have z3 := below_up z2 z2.size b3; obtain ⟨d0, d1, d2, d3, d4⟩ := rf0 f3; rw [r3] at d3; rw [r4] at d4)
    | (go_at_call 31; (with_reducible refine (CN.out _).mono ?_); rintro e w4 ⟨rfl, b4⟩; have f4 := Shp.rd_on f3 b4; have z4 := below_up z3 z3.size b4; obtain ⟨d0, d1, d2, d3, d4⟩ := rf0 f4; rw [r3] at d3; rw [r4] at d4)
    | (go_at_call 32; (with_reducible refine (CO.out _).mono ?_); rintro e w5 ⟨rfl, b5⟩; have f5 := Shp.rd_on f4 b5; have z5 := below_up z4 z4.size b5; obtain ⟨d0, d1, d2, d3, d4⟩ := rf0 f5; rw [r3] at d3; rw [r4] at d4; have z5' := z5.alloc z5.size (.cells #[.string ta, .string tb, .string tc] 71))
    | (go_at_call 38; (with_reducible refine (CX.out _).mono ?_); rintro e w6 ⟨rfl, b6⟩; have z6 := below_up z5' z5'.size b6))
  go_ret
  exact ⟨by rw [HS.out]; rfl, z6⟩
theorem rtext_any (x : D.Ky) (w : World) (h : D.kright x = true) : Calls Tryz.prog 15 #[.agg (rS.v (D.toR x))] w fun e w' => e = .returned (.string (D.sb (D.ktx x))) ∧ Below w.heap.size w w' := by
  have hk := (kr_of h).k
  obtain hk | hk | hk | hk | hk | hk : x.k = 1 ∨ x.k = 2 ∨ x.k = 3 ∨ x.k = 4 ∨ x.k = 5 ∨ x.k = 6 := by omega
  · exact rtext_1 x w h hk
  · exact rtext_2 x w h hk
  · exact rtext_3 x w h hk
  · exact rtext_4 x w h hk
  · exact rtext_5 x w h hk
  · exact rtext_6 x w h hk
end Go.Proofs.YtjblepjkejihcaaGreatDoor
