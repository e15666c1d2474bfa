/-
  Texts of keys: the law's walk.
-/
import Derived.Test.YtjblepjkejihcaaGreatDoorGh
set_option linter.unusedVariables false
set_option linter.unusedSimpArgs false
set_option maxRecDepth 100000
namespace Go.Proofs.YtjblepjkejihcaaGreatDoor
open Go.RowKit
attribute [local go_sem ↓] Go.wp_at_zero Go.wp_at_succ ld_k lv_k st_k eq_k ne_k bd_k ld_b lv_b st_b eq_b ne_b bd_25 ld_r lv_r st_rk eq_rk ne_rk bd_r ld_p lv_p st_px bd_p Nm.ld_a Nm.ld_n Nm.st_a Nm.st_n Nm.eq_a Nm.eq_n Nm.ne_a Nm.ne_n Nm.lv_a Nm.lv_n ld_a ld_n st_a st_n eq_a eq_n ne_a ne_n lv_a lv_n
attribute [local go_sem] run_ldk run_lvk run_stk run_eqk run_nek run_bdk_z run_ldb run_lvb run_stb run_eqb run_neb run_ldr run_lvr run_strk run_eqrk run_nerk run_bdr_z run_ldp run_lvp run_stpx Nm.run_ld_a Nm.run_ld_n Nm.run_st_n Nm.run_eq_a Nm.run_eq_n Nm.run_ne_a Nm.run_ne_n Nm.run_lv_a Nm.run_lv_n Nm.rd_new Nm.rd_old Nm.rd_drew Nm.rd_drewN run_ld_a run_ld_n run_sw_a run_sw_n run_eq_a run_eq_n run_ne_a run_ne_n run_lv_a run_lv_n st_z ne_z eq_z rd_new rd_old rd_drew rd_drewN Shp.rd_new Shp.rd_old Shp.rd_drew Shp.rd_drewN Shp.rd_set Shp.tn_new Shp.tn_old Shp.tn_drew Shp.tn_drewN tn_new tn_old tn_drew tn_drewN rd_set setRow_alloc run_stn3 run_stt15

theorem kself (x : D.Ky) : kS.sm x x = true := by rw [kS_sm]; simp
theorem ext_le (u : ByteArray) (m : Nat) : (u.extract 0 m).size ≤ m := by simp [ByteArray.size_extract]; omega
theorem kparse_text (k : D.Ky) : D.kparse (D.sb (D.ktx k)) = if D.kright k then (k, 0) else (D.zK, 3) := by
  cases h : D.kright k with
  | true => exact D.kparse_tx h
  | false =>
    have ht := (D.ktx_nil k).2 h
    rcases D.kparse_two (D.sb (D.ktx k)) with ⟨_, h2, h3⟩ | h2
    · rw [D.ns_sb (D.ktx_lt k)] at h3
      rw [(D.ktx_nil _).1 (h3.trans ht)] at h2
      cases h2
    · exact h2
theorem ktx_size (k : D.Ky) : (D.sb (D.ktx k)).size ≤ 100 := by
  rw [D.sb_len]
  cases h : D.kright k with
  | false => rw [(D.ktx_nil k).2 h]; decide
  | true =>
    have hx := h
    simp only [D.kright, decide_eq_true_eq] at h
    have hR := kr_of hx
    rw [D.ktx, if_pos hx]
    have g1 := dig_len k.p
    have g2 := dig_len k.a
    have g3 := txt_len' k.n
    have g4 := tx_len' k.t
    unfold D.kparts
    cases D.nmd k.k <;> cases D.tgd k.k <;> by_cases ha : 0 < D.ats (k.k : Int) <;> simp only [ha, if_true, if_false, Bool.false_eq_true, List.nil_append, List.append_nil, List.cons_append, D.jn, List.length_append, List.length_cons, List.length_nil] <;> omega

set_option maxHeartbeats 8000000 in
theorem texts_a1 (s u : ByteArray) (k : D.Ky) (w : World) (hE : Env w) (m : Nat) (hm1 : m ≤ s.size) (hmin : ∀ ts t W, (Builtin.min_ ts t #[.int .i64 (s.size : Int), .int .i64 60]).run Tryz.prog W = .ok (.int .i64 (m : Int)) W) (hu : s.extract 0 m = u) (hus : u.size ≤ 60) (x : D.Ky) (hP : D.kparse u = (x, 0)) (hr : D.kright x = true) (hx : D.sb (D.ktx x) = u) (hk : D.kright k = true) (he : (u.toList == (D.sb (D.ktx k)).toList) = true) : Calls Tryz.prog 5 #[.string s, .agg (kS.v k)] w fun e w' => e = .returned (.bool true) ∧ Below w.heap.size w w' := by
  have CP := Lib.hid (fun W (hE : Env W) => (show Calls Tryz.prog 21 #[.string u] W fun e w' => e = .returned (.tuple #[.agg (kS.v x), .int .i64 0]) ∧ Below W.heap.size W w' from by have := kparse_any u W (by omega) hE; rwa [hP] at this))
  have hT := ktx_size k
  have hQ := kparse_text k
  rw [hk] at hQ
  have cT := fun W => ktext_any k W
  obtain ⟨T, hTT⟩ : ∃ T, D.sb (D.ktx k) = T := ⟨_, rfl⟩
  simp only [hTT] at hT hQ cT he
  have CQ := Lib.hid (fun W (hE : Env W) => (show Calls Tryz.prog 21 #[.string T] W fun e w' => e = .returned (.tuple #[.agg (kS.v k), .int .i64 0]) ∧ Below W.heap.size W w' from by have := kparse_any T W hT hE; rwa [hQ] at this))
  have CT := Lib.hid cT
  have CR := Lib.hid (fun W => (show Calls Tryz.prog 13 #[.agg (kS.v k)] W fun e w' => e = .returned (.bool true) ∧ Below W.heap.size W w' from by have := keyright_any k W; rwa [hk] at this))
  have CRx := Lib.hid (fun W => (show Calls Tryz.prog 13 #[.agg (kS.v x)] W fun e w' => e = .returned (.bool true) ∧ Below W.heap.size W w' from by have := keyright_any x W; rwa [hr] at this))
  have CTx := Lib.hid (fun W => (show Calls Tryz.prog 18 #[.agg (kS.v x)] W fun e w' => e = .returned (.string u) ∧ Below W.heap.size W w' from by have := ktext_any x W; rwa [hx] at this))
  have h0 := kself k
  have h1 := kself D.zK
  have f0 := Shp.rd_new (S := kS) w _ 33 k rfl
  obtain ⟨W0, hW0⟩ : ∃ W, w.alloc (.cells (kS.v k) 33) = W := ⟨_, rfl⟩
  have z0 : Below w.heap.size w W0 := by rw [← hW0]; exact below_alloc_ _ _
  rw [hW0] at f0
  have E0 := hE.on z0
  have hmi : (m : Int) ≤ (s.size : Int) := by omega
  clear hP hk hTT hQ cT hT hr hx
  go_enter Tryz.func5, Tryz.ntmps5
  go_wp2_with fail
  try rw [hW0]
  clear hW0
  go_wp2_with (first
    | (go_at_call 13; (with_reducible refine (CR.out _).mono ?_); rintro e w9 ⟨rfl, b9⟩; have f9 := Shp.rd_on f8 b9; have x9 := Shp.rd_on x8 b9; have y9 := Shp.rd_on y8 b9; have z9 := below_up z8 z8.size b9)
    | (go_at_call 12; (with_reducible refine (kknown_any _ E7).mono ?_); rintro e w8 ⟨rfl, b8⟩; have f8 := Shp.rd_on f7 b8; have x8 := Shp.rd_on x7 b8; have y8 := Shp.rd_on y7 b8; have z8 := below_up z7 z7.size b8)
    | (go_at_call 13; (with_reducible refine (CR.out _).mono ?_); rintro e w7 ⟨rfl, b7⟩; have f7 := Shp.rd_on f6 b7; have x7 := Shp.rd_on x6 b7; have y7 := Shp.rd_on y6 b7; have z7 := below_up z6 z6.size b7; have E7 := hE.on z7)
    | (go_at_call 18; (with_reducible refine (CT.out _).mono ?_); rintro e w6 ⟨rfl, b6⟩; have f6 := Shp.rd_on f5 b6; have x6 := Shp.rd_on x5 b6; have y6 := Shp.rd_on y5 b6; have z6 := below_up z5 z5.size b6; have E6 := hE.on z6)
    | (go_at_call 18; (with_reducible refine (CTx.out _).mono ?_); rintro e w5 ⟨rfl, b5⟩; have f5 := Shp.rd_on f4 b5; have x5 := Shp.rd_on x4 b5; have y5 := Shp.rd_on y4 b5; have z5 := below_up z4 z4.size b5)
    | (go_at_call 13; (with_reducible refine (CRx.out _).mono ?_); rintro e w4 ⟨rfl, b4⟩; have f4 := Shp.rd_on f3 b4; have x4 := Shp.rd_on x3 b4; have y4 := Shp.rd_on y3 b4; have z4 := below_up z3 z3.size b4)
    | (go_at_call 21; (with_reducible refine (CQ.out _ E2).mono ?_); rintro e w3 ⟨rfl, b3⟩; have f3 := Shp.rd_on (Shp.rd_on g2 b3) (below_alloc_ w3 (.cells (kS.v k) 33)); have x3 := Shp.rd_on (Shp.rd_on v2 b3) (below_alloc_ w3 (.cells (kS.v k) 33)); have y3 := Shp.rd_new (S := kS) w3 _ 33 k rfl; have z3 := (below_up q2 q2.size b3).alloc (below_up q2 q2.size b3).size (.cells (kS.v k) 33))
    | (go_at_call 18; (with_reducible refine (CT.out _).mono ?_); rintro e w2 ⟨rfl, b2⟩; have g2 := Shp.rd_on g1 b2; have v2 := Shp.rd_on v1 b2; have q2 := below_up q1 q1.size b2; have E2 := hE.on q2)
    | (go_at_call 21; (with_reducible refine (CP.out _ E0).mono ?_); rintro e w1 ⟨rfl, b1⟩; have g1 := Shp.rd_on (Shp.rd_on f0 b1) (below_alloc_ w1 (.cells (kS.v x) 33)); have v1 := Shp.rd_new (S := kS) w1 _ 33 x rfl; have q1 := (below_up z0 z0.size b1).alloc (below_up z0 z0.size b1).size (.cells (kS.v x) 33)))
  go_ret
  exact ⟨by rfl, z9⟩

set_option maxHeartbeats 8000000 in
theorem texts_a2 (s u : ByteArray) (k : D.Ky) (w : World) (hE : Env w) (m : Nat) (hm1 : m ≤ s.size) (hmin : ∀ ts t W, (Builtin.min_ ts t #[.int .i64 (s.size : Int), .int .i64 60]).run Tryz.prog W = .ok (.int .i64 (m : Int)) W) (hu : s.extract 0 m = u) (hus : u.size ≤ 60) (x : D.Ky) (hP : D.kparse u = (x, 0)) (hr : D.kright x = true) (hx : D.sb (D.ktx x) = u) (hk : D.kright k = true) (he : (u.toList == (D.sb (D.ktx k)).toList) = false) : Calls Tryz.prog 5 #[.string s, .agg (kS.v k)] w fun e w' => e = .returned (.bool true) ∧ Below w.heap.size w w' := by
  have CP := Lib.hid (fun W (hE : Env W) => (show Calls Tryz.prog 21 #[.string u] W fun e w' => e = .returned (.tuple #[.agg (kS.v x), .int .i64 0]) ∧ Below W.heap.size W w' from by have := kparse_any u W (by omega) hE; rwa [hP] at this))
  have hT := ktx_size k
  have hQ := kparse_text k
  rw [hk] at hQ
  have cT := fun W => ktext_any k W
  obtain ⟨T, hTT⟩ : ∃ T, D.sb (D.ktx k) = T := ⟨_, rfl⟩
  simp only [hTT] at hT hQ cT he
  have CQ := Lib.hid (fun W (hE : Env W) => (show Calls Tryz.prog 21 #[.string T] W fun e w' => e = .returned (.tuple #[.agg (kS.v k), .int .i64 0]) ∧ Below W.heap.size W w' from by have := kparse_any T W hT hE; rwa [hQ] at this))
  have CT := Lib.hid cT
  have CR := Lib.hid (fun W => (show Calls Tryz.prog 13 #[.agg (kS.v k)] W fun e w' => e = .returned (.bool true) ∧ Below W.heap.size W w' from by have := keyright_any k W; rwa [hk] at this))
  have CRx := Lib.hid (fun W => (show Calls Tryz.prog 13 #[.agg (kS.v x)] W fun e w' => e = .returned (.bool true) ∧ Below W.heap.size W w' from by have := keyright_any x W; rwa [hr] at this))
  have CTx := Lib.hid (fun W => (show Calls Tryz.prog 18 #[.agg (kS.v x)] W fun e w' => e = .returned (.string u) ∧ Below W.heap.size W w' from by have := ktext_any x W; rwa [hx] at this))
  have h0 := kself k
  have h1 := kself D.zK
  have f0 := Shp.rd_new (S := kS) w _ 33 k rfl
  obtain ⟨W0, hW0⟩ : ∃ W, w.alloc (.cells (kS.v k) 33) = W := ⟨_, rfl⟩
  have z0 : Below w.heap.size w W0 := by rw [← hW0]; exact below_alloc_ _ _
  rw [hW0] at f0
  have E0 := hE.on z0
  have hmi : (m : Int) ≤ (s.size : Int) := by omega
  clear hP hk hTT hQ cT hT hr hx
  go_enter Tryz.func5, Tryz.ntmps5
  go_wp2_with fail
  try rw [hW0]
  clear hW0
  go_wp2_with (first
    | (go_at_call 13; (with_reducible refine (CR.out _).mono ?_); rintro e w9 ⟨rfl, b9⟩; have f9 := Shp.rd_on f8 b9; have x9 := Shp.rd_on x8 b9; have y9 := Shp.rd_on y8 b9; have z9 := below_up z8 z8.size b9)
    | (go_at_call 12; (with_reducible refine (kknown_any _ E6).mono ?_); rintro e w8 ⟨rfl, b8⟩; have f8 := Shp.rd_on f6 b8; have x8 := Shp.rd_on x6 b8; have y8 := Shp.rd_on y6 b8; have z8 := below_up z6 z6.size b8)
    | (go_at_call 18; (with_reducible refine (CT.out _).mono ?_); rintro e w6 ⟨rfl, b6⟩; have f6 := Shp.rd_on f5 b6; have x6 := Shp.rd_on x5 b6; have y6 := Shp.rd_on y5 b6; have z6 := below_up z5 z5.size b6; have E6 := hE.on z6)
    | (go_at_call 18; (with_reducible refine (CTx.out _).mono ?_); rintro e w5 ⟨rfl, b5⟩; have f5 := Shp.rd_on f4 b5; have x5 := Shp.rd_on x4 b5; have y5 := Shp.rd_on y4 b5; have z5 := below_up z4 z4.size b5)
    | (go_at_call 13; (with_reducible refine (CRx.out _).mono ?_); rintro e w4 ⟨rfl, b4⟩; have f4 := Shp.rd_on f3 b4; have x4 := Shp.rd_on x3 b4; have y4 := Shp.rd_on y3 b4; have z4 := below_up z3 z3.size b4)
    | (go_at_call 21; (with_reducible refine (CQ.out _ E2).mono ?_); rintro e w3 ⟨rfl, b3⟩; have f3 := Shp.rd_on (Shp.rd_on g2 b3) (below_alloc_ w3 (.cells (kS.v k) 33)); have x3 := Shp.rd_on (Shp.rd_on v2 b3) (below_alloc_ w3 (.cells (kS.v k) 33)); have y3 := Shp.rd_new (S := kS) w3 _ 33 k rfl; have z3 := (below_up q2 q2.size b3).alloc (below_up q2 q2.size b3).size (.cells (kS.v k) 33))
    | (go_at_call 18; (with_reducible refine (CT.out _).mono ?_); rintro e w2 ⟨rfl, b2⟩; have g2 := Shp.rd_on g1 b2; have v2 := Shp.rd_on v1 b2; have q2 := below_up q1 q1.size b2; have E2 := hE.on q2)
    | (go_at_call 21; (with_reducible refine (CP.out _ E0).mono ?_); rintro e w1 ⟨rfl, b1⟩; have g1 := Shp.rd_on (Shp.rd_on f0 b1) (below_alloc_ w1 (.cells (kS.v x) 33)); have v1 := Shp.rd_new (S := kS) w1 _ 33 x rfl; have q1 := (below_up z0 z0.size b1).alloc (below_up z0 z0.size b1).size (.cells (kS.v x) 33)))
  go_ret
  exact ⟨by rfl, z9⟩

set_option maxHeartbeats 8000000 in
theorem texts_a3 (s u : ByteArray) (k : D.Ky) (w : World) (hE : Env w) (m : Nat) (hm1 : m ≤ s.size) (hmin : ∀ ts t W, (Builtin.min_ ts t #[.int .i64 (s.size : Int), .int .i64 60]).run Tryz.prog W = .ok (.int .i64 (m : Int)) W) (hu : s.extract 0 m = u) (hus : u.size ≤ 60) (x : D.Ky) (hP : D.kparse u = (x, 0)) (hr : D.kright x = true) (hx : D.sb (D.ktx x) = u) (hk : D.kright k = false) (he : (u.toList == (D.sb (D.ktx k)).toList) = false) : Calls Tryz.prog 5 #[.string s, .agg (kS.v k)] w fun e w' => e = .returned (.bool true) ∧ Below w.heap.size w w' := by
  have CP := Lib.hid (fun W (hE : Env W) => (show Calls Tryz.prog 21 #[.string u] W fun e w' => e = .returned (.tuple #[.agg (kS.v x), .int .i64 0]) ∧ Below W.heap.size W w' from by have := kparse_any u W (by omega) hE; rwa [hP] at this))
  have hT := ktx_size k
  have hQ := kparse_text k
  rw [hk] at hQ
  have cT := fun W => ktext_any k W
  obtain ⟨T, hTT⟩ : ∃ T, D.sb (D.ktx k) = T := ⟨_, rfl⟩
  simp only [hTT] at hT hQ cT he
  have CQ := Lib.hid (fun W (hE : Env W) => (show Calls Tryz.prog 21 #[.string T] W fun e w' => e = .returned (.tuple #[.agg (kS.v D.zK), .int .i64 3]) ∧ Below W.heap.size W w' from by have := kparse_any T W hT hE; rwa [hQ] at this))
  have CT := Lib.hid cT
  have CR := Lib.hid (fun W => (show Calls Tryz.prog 13 #[.agg (kS.v k)] W fun e w' => e = .returned (.bool false) ∧ Below W.heap.size W w' from by have := keyright_any k W; rwa [hk] at this))
  have CRx := Lib.hid (fun W => (show Calls Tryz.prog 13 #[.agg (kS.v x)] W fun e w' => e = .returned (.bool true) ∧ Below W.heap.size W w' from by have := keyright_any x W; rwa [hr] at this))
  have CTx := Lib.hid (fun W => (show Calls Tryz.prog 18 #[.agg (kS.v x)] W fun e w' => e = .returned (.string u) ∧ Below W.heap.size W w' from by have := ktext_any x W; rwa [hx] at this))
  have h0 := kself D.zK
  have h1 := kself D.zK
  have f0 := Shp.rd_new (S := kS) w _ 33 k rfl
  obtain ⟨W0, hW0⟩ : ∃ W, w.alloc (.cells (kS.v k) 33) = W := ⟨_, rfl⟩
  have z0 : Below w.heap.size w W0 := by rw [← hW0]; exact below_alloc_ _ _
  rw [hW0] at f0
  have E0 := hE.on z0
  have hmi : (m : Int) ≤ (s.size : Int) := by omega
  clear hP hk hTT hQ cT hT hr hx
  go_enter Tryz.func5, Tryz.ntmps5
  go_wp2_with fail
  try rw [hW0]
  clear hW0
  go_wp2_with (first
    | (go_at_call 13; (with_reducible refine (CR.out _).mono ?_); rintro e w9 ⟨rfl, b9⟩; have f9 := Shp.rd_on f8 b9; have x9 := Shp.rd_on x8 b9; have y9 := Shp.rd_on y8 b9; have z9 := below_up z8 z8.size b9)
    | (go_at_call 12; (with_reducible refine (kknown_any _ E6).mono ?_); rintro e w8 ⟨rfl, b8⟩; have f8 := Shp.rd_on f6 b8; have x8 := Shp.rd_on x6 b8; have y8 := Shp.rd_on y6 b8; have z8 := below_up z6 z6.size b8)
    | (go_at_call 18; (with_reducible refine (CT.out _).mono ?_); rintro e w6 ⟨rfl, b6⟩; have f6 := Shp.rd_on f5 b6; have x6 := Shp.rd_on x5 b6; have y6 := Shp.rd_on y5 b6; have z6 := below_up z5 z5.size b6; have E6 := hE.on z6)
    | (go_at_call 18; (with_reducible refine (CTx.out _).mono ?_); rintro e w5 ⟨rfl, b5⟩; have f5 := Shp.rd_on f4 b5; have x5 := Shp.rd_on x4 b5; have y5 := Shp.rd_on y4 b5; have z5 := below_up z4 z4.size b5)
    | (go_at_call 13; (with_reducible refine (CRx.out _).mono ?_); rintro e w4 ⟨rfl, b4⟩; have f4 := Shp.rd_on f3 b4; have x4 := Shp.rd_on x3 b4; have y4 := Shp.rd_on y3 b4; have z4 := below_up z3 z3.size b4)
    | (go_at_call 21; (with_reducible refine (CQ.out _ E2).mono ?_); rintro e w3 ⟨rfl, b3⟩; have f3 := Shp.rd_on (Shp.rd_on g2 b3) (below_alloc_ w3 (.cells (kS.v D.zK) 33)); have x3 := Shp.rd_on (Shp.rd_on v2 b3) (below_alloc_ w3 (.cells (kS.v D.zK) 33)); have y3 := Shp.rd_new (S := kS) w3 _ 33 D.zK rfl; have z3 := (below_up q2 q2.size b3).alloc (below_up q2 q2.size b3).size (.cells (kS.v D.zK) 33))
    | (go_at_call 18; (with_reducible refine (CT.out _).mono ?_); rintro e w2 ⟨rfl, b2⟩; have g2 := Shp.rd_on g1 b2; have v2 := Shp.rd_on v1 b2; have q2 := below_up q1 q1.size b2; have E2 := hE.on q2)
    | (go_at_call 21; (with_reducible refine (CP.out _ E0).mono ?_); rintro e w1 ⟨rfl, b1⟩; have g1 := Shp.rd_on (Shp.rd_on f0 b1) (below_alloc_ w1 (.cells (kS.v x) 33)); have v1 := Shp.rd_new (S := kS) w1 _ 33 x rfl; have q1 := (below_up z0 z0.size b1).alloc (below_up z0 z0.size b1).size (.cells (kS.v x) 33)))
  go_ret
  exact ⟨by rfl, z9⟩

set_option maxHeartbeats 8000000 in
theorem texts_b1 (s u : ByteArray) (k : D.Ky) (w : World) (hE : Env w) (m : Nat) (hm1 : m ≤ s.size) (hmin : ∀ ts t W, (Builtin.min_ ts t #[.int .i64 (s.size : Int), .int .i64 60]).run Tryz.prog W = .ok (.int .i64 (m : Int)) W) (hu : s.extract 0 m = u) (hus : u.size ≤ 60) (hP : D.kparse u = (D.zK, 3)) (hk : D.kright k = true) (he : (u.toList == (D.sb (D.ktx k)).toList) = false) : Calls Tryz.prog 5 #[.string s, .agg (kS.v k)] w fun e w' => e = .returned (.bool true) ∧ Below w.heap.size w w' := by
  have CP := Lib.hid (fun W (hE : Env W) => (show Calls Tryz.prog 21 #[.string u] W fun e w' => e = .returned (.tuple #[.agg (kS.v D.zK), .int .i64 3]) ∧ Below W.heap.size W w' from by have := kparse_any u W (by omega) hE; rwa [hP] at this))
  have hT := ktx_size k
  have hQ := kparse_text k
  rw [hk] at hQ
  have cT := fun W => ktext_any k W
  obtain ⟨T, hTT⟩ : ∃ T, D.sb (D.ktx k) = T := ⟨_, rfl⟩
  simp only [hTT] at hT hQ cT he
  have CQ := Lib.hid (fun W (hE : Env W) => (show Calls Tryz.prog 21 #[.string T] W fun e w' => e = .returned (.tuple #[.agg (kS.v k), .int .i64 0]) ∧ Below W.heap.size W w' from by have := kparse_any T W hT hE; rwa [hQ] at this))
  have CT := Lib.hid cT
  have CR := Lib.hid (fun W => (show Calls Tryz.prog 13 #[.agg (kS.v k)] W fun e w' => e = .returned (.bool true) ∧ Below W.heap.size W w' from by have := keyright_any k W; rwa [hk] at this))
  have h0 := kself k
  have h1 := kself D.zK
  have f0 := Shp.rd_new (S := kS) w _ 33 k rfl
  obtain ⟨W0, hW0⟩ : ∃ W, w.alloc (.cells (kS.v k) 33) = W := ⟨_, rfl⟩
  have z0 : Below w.heap.size w W0 := by rw [← hW0]; exact below_alloc_ _ _
  rw [hW0] at f0
  have E0 := hE.on z0
  have hmi : (m : Int) ≤ (s.size : Int) := by omega
  clear hP hk hTT hQ cT hT 
  go_enter Tryz.func5, Tryz.ntmps5
  go_wp2_with fail
  try rw [hW0]
  clear hW0
  go_wp2_with (first
    | (go_at_call 13; (with_reducible refine (CR.out _).mono ?_); rintro e w9 ⟨rfl, b9⟩; have f9 := Shp.rd_on f8 b9; have x9 := Shp.rd_on x8 b9; have y9 := Shp.rd_on y8 b9; have z9 := below_up z8 z8.size b9)
    | (go_at_call 12; (with_reducible refine (kknown_any _ E6).mono ?_); rintro e w8 ⟨rfl, b8⟩; have f8 := Shp.rd_on f6 b8; have x8 := Shp.rd_on x6 b8; have y8 := Shp.rd_on y6 b8; have z8 := below_up z6 z6.size b8)
    | (go_at_call 18; (with_reducible refine (CT.out _).mono ?_); rintro e w6 ⟨rfl, b6⟩; have f6 := Shp.rd_on f3 b6; have x6 := Shp.rd_on x3 b6; have y6 := Shp.rd_on y3 b6; have z6 := below_up z3 z3.size b6; have E6 := hE.on z6)
    | (go_at_call 21; (with_reducible refine (CQ.out _ E2).mono ?_); rintro e w3 ⟨rfl, b3⟩; have f3 := Shp.rd_on (Shp.rd_on g2 b3) (below_alloc_ w3 (.cells (kS.v k) 33)); have x3 := Shp.rd_on (Shp.rd_on v2 b3) (below_alloc_ w3 (.cells (kS.v k) 33)); have y3 := Shp.rd_new (S := kS) w3 _ 33 k rfl; have z3 := (below_up q2 q2.size b3).alloc (below_up q2 q2.size b3).size (.cells (kS.v k) 33))
    | (go_at_call 18; (with_reducible refine (CT.out _).mono ?_); rintro e w2 ⟨rfl, b2⟩; have g2 := Shp.rd_on g1 b2; have v2 := Shp.rd_on v1 b2; have q2 := below_up q1 q1.size b2; have E2 := hE.on q2)
    | (go_at_call 21; (with_reducible refine (CP.out _ E0).mono ?_); rintro e w1 ⟨rfl, b1⟩; have g1 := Shp.rd_on (Shp.rd_on f0 b1) (below_alloc_ w1 (.cells (kS.v D.zK) 33)); have v1 := Shp.rd_new (S := kS) w1 _ 33 D.zK rfl; have q1 := (below_up z0 z0.size b1).alloc (below_up z0 z0.size b1).size (.cells (kS.v D.zK) 33)))
  go_ret
  exact ⟨by rfl, z9⟩

set_option maxHeartbeats 8000000 in
theorem texts_b2 (s u : ByteArray) (k : D.Ky) (w : World) (hE : Env w) (m : Nat) (hm1 : m ≤ s.size) (hmin : ∀ ts t W, (Builtin.min_ ts t #[.int .i64 (s.size : Int), .int .i64 60]).run Tryz.prog W = .ok (.int .i64 (m : Int)) W) (hu : s.extract 0 m = u) (hus : u.size ≤ 60) (hP : D.kparse u = (D.zK, 3)) (hk : D.kright k = false) (he : (u.toList == (D.sb (D.ktx k)).toList) = true) : Calls Tryz.prog 5 #[.string s, .agg (kS.v k)] w fun e w' => e = .returned (.bool true) ∧ Below w.heap.size w w' := by
  have CP := Lib.hid (fun W (hE : Env W) => (show Calls Tryz.prog 21 #[.string u] W fun e w' => e = .returned (.tuple #[.agg (kS.v D.zK), .int .i64 3]) ∧ Below W.heap.size W w' from by have := kparse_any u W (by omega) hE; rwa [hP] at this))
  have hT := ktx_size k
  have hQ := kparse_text k
  rw [hk] at hQ
  have cT := fun W => ktext_any k W
  obtain ⟨T, hTT⟩ : ∃ T, D.sb (D.ktx k) = T := ⟨_, rfl⟩
  simp only [hTT] at hT hQ cT he
  have CQ := Lib.hid (fun W (hE : Env W) => (show Calls Tryz.prog 21 #[.string T] W fun e w' => e = .returned (.tuple #[.agg (kS.v D.zK), .int .i64 3]) ∧ Below W.heap.size W w' from by have := kparse_any T W hT hE; rwa [hQ] at this))
  have CT := Lib.hid cT
  have CR := Lib.hid (fun W => (show Calls Tryz.prog 13 #[.agg (kS.v k)] W fun e w' => e = .returned (.bool false) ∧ Below W.heap.size W w' from by have := keyright_any k W; rwa [hk] at this))
  have h0 := kself D.zK
  have h1 := kself D.zK
  have f0 := Shp.rd_new (S := kS) w _ 33 k rfl
  obtain ⟨W0, hW0⟩ : ∃ W, w.alloc (.cells (kS.v k) 33) = W := ⟨_, rfl⟩
  have z0 : Below w.heap.size w W0 := by rw [← hW0]; exact below_alloc_ _ _
  rw [hW0] at f0
  have E0 := hE.on z0
  have hmi : (m : Int) ≤ (s.size : Int) := by omega
  clear hP hk hTT hQ cT hT 
  go_enter Tryz.func5, Tryz.ntmps5
  go_wp2_with fail
  try rw [hW0]
  clear hW0
  go_wp2_with (first
    | (go_at_call 13; (with_reducible refine (CR.out _).mono ?_); rintro e w9 ⟨rfl, b9⟩; have f9 := Shp.rd_on f8 b9; have x9 := Shp.rd_on x8 b9; have y9 := Shp.rd_on y8 b9; have z9 := below_up z8 z8.size b9)
    | (go_at_call 12; (with_reducible refine (kknown_any _ E7).mono ?_); rintro e w8 ⟨rfl, b8⟩; have f8 := Shp.rd_on f7 b8; have x8 := Shp.rd_on x7 b8; have y8 := Shp.rd_on y7 b8; have z8 := below_up z7 z7.size b8)
    | (go_at_call 13; (with_reducible refine (CR.out _).mono ?_); rintro e w7 ⟨rfl, b7⟩; have f7 := Shp.rd_on f6 b7; have x7 := Shp.rd_on x6 b7; have y7 := Shp.rd_on y6 b7; have z7 := below_up z6 z6.size b7; have E7 := hE.on z7)
    | (go_at_call 18; (with_reducible refine (CT.out _).mono ?_); rintro e w6 ⟨rfl, b6⟩; have f6 := Shp.rd_on f3 b6; have x6 := Shp.rd_on x3 b6; have y6 := Shp.rd_on y3 b6; have z6 := below_up z3 z3.size b6; have E6 := hE.on z6)
    | (go_at_call 21; (with_reducible refine (CQ.out _ E2).mono ?_); rintro e w3 ⟨rfl, b3⟩; have f3 := Shp.rd_on (Shp.rd_on g2 b3) (below_alloc_ w3 (.cells (kS.v D.zK) 33)); have x3 := Shp.rd_on (Shp.rd_on v2 b3) (below_alloc_ w3 (.cells (kS.v D.zK) 33)); have y3 := Shp.rd_new (S := kS) w3 _ 33 D.zK rfl; have z3 := (below_up q2 q2.size b3).alloc (below_up q2 q2.size b3).size (.cells (kS.v D.zK) 33))
    | (go_at_call 18; (with_reducible refine (CT.out _).mono ?_); rintro e w2 ⟨rfl, b2⟩; have g2 := Shp.rd_on g1 b2; have v2 := Shp.rd_on v1 b2; have q2 := below_up q1 q1.size b2; have E2 := hE.on q2)
    | (go_at_call 21; (with_reducible refine (CP.out _ E0).mono ?_); rintro e w1 ⟨rfl, b1⟩; have g1 := Shp.rd_on (Shp.rd_on f0 b1) (below_alloc_ w1 (.cells (kS.v D.zK) 33)); have v1 := Shp.rd_new (S := kS) w1 _ 33 D.zK rfl; have q1 := (below_up z0 z0.size b1).alloc (below_up z0 z0.size b1).size (.cells (kS.v D.zK) 33)))
  go_ret
  exact ⟨by rfl, z9⟩

set_option maxHeartbeats 8000000 in
theorem texts_b3 (s u : ByteArray) (k : D.Ky) (w : World) (hE : Env w) (m : Nat) (hm1 : m ≤ s.size) (hmin : ∀ ts t W, (Builtin.min_ ts t #[.int .i64 (s.size : Int), .int .i64 60]).run Tryz.prog W = .ok (.int .i64 (m : Int)) W) (hu : s.extract 0 m = u) (hus : u.size ≤ 60) (hP : D.kparse u = (D.zK, 3)) (hk : D.kright k = false) (he : (u.toList == (D.sb (D.ktx k)).toList) = false) : Calls Tryz.prog 5 #[.string s, .agg (kS.v k)] w fun e w' => e = .returned (.bool true) ∧ Below w.heap.size w w' := by
  have CP := Lib.hid (fun W (hE : Env W) => (show Calls Tryz.prog 21 #[.string u] W fun e w' => e = .returned (.tuple #[.agg (kS.v D.zK), .int .i64 3]) ∧ Below W.heap.size W w' from by have := kparse_any u W (by omega) hE; rwa [hP] at this))
  have hT := ktx_size k
  have hQ := kparse_text k
  rw [hk] at hQ
  have cT := fun W => ktext_any k W
  obtain ⟨T, hTT⟩ : ∃ T, D.sb (D.ktx k) = T := ⟨_, rfl⟩
  simp only [hTT] at hT hQ cT he
  have CQ := Lib.hid (fun W (hE : Env W) => (show Calls Tryz.prog 21 #[.string T] W fun e w' => e = .returned (.tuple #[.agg (kS.v D.zK), .int .i64 3]) ∧ Below W.heap.size W w' from by have := kparse_any T W hT hE; rwa [hQ] at this))
  have CT := Lib.hid cT
  have CR := Lib.hid (fun W => (show Calls Tryz.prog 13 #[.agg (kS.v k)] W fun e w' => e = .returned (.bool false) ∧ Below W.heap.size W w' from by have := keyright_any k W; rwa [hk] at this))
  have h0 := kself D.zK
  have h1 := kself D.zK
  have f0 := Shp.rd_new (S := kS) w _ 33 k rfl
  obtain ⟨W0, hW0⟩ : ∃ W, w.alloc (.cells (kS.v k) 33) = W := ⟨_, rfl⟩
  have z0 : Below w.heap.size w W0 := by rw [← hW0]; exact below_alloc_ _ _
  rw [hW0] at f0
  have E0 := hE.on z0
  have hmi : (m : Int) ≤ (s.size : Int) := by omega
  clear hP hk hTT hQ cT hT 
  go_enter Tryz.func5, Tryz.ntmps5
  go_wp2_with fail
  try rw [hW0]
  clear hW0
  go_wp2_with (first
    | (go_at_call 13; (with_reducible refine (CR.out _).mono ?_); rintro e w9 ⟨rfl, b9⟩; have f9 := Shp.rd_on f8 b9; have x9 := Shp.rd_on x8 b9; have y9 := Shp.rd_on y8 b9; have z9 := below_up z8 z8.size b9)
    | (go_at_call 12; (with_reducible refine (kknown_any _ E6).mono ?_); rintro e w8 ⟨rfl, b8⟩; have f8 := Shp.rd_on f6 b8; have x8 := Shp.rd_on x6 b8; have y8 := Shp.rd_on y6 b8; have z8 := below_up z6 z6.size b8)
    | (go_at_call 18; (with_reducible refine (CT.out _).mono ?_); rintro e w6 ⟨rfl, b6⟩; have f6 := Shp.rd_on f3 b6; have x6 := Shp.rd_on x3 b6; have y6 := Shp.rd_on y3 b6; have z6 := below_up z3 z3.size b6; have E6 := hE.on z6)
    | (go_at_call 21; (with_reducible refine (CQ.out _ E2).mono ?_); rintro e w3 ⟨rfl, b3⟩; have f3 := Shp.rd_on (Shp.rd_on g2 b3) (below_alloc_ w3 (.cells (kS.v D.zK) 33)); have x3 := Shp.rd_on (Shp.rd_on v2 b3) (below_alloc_ w3 (.cells (kS.v D.zK) 33)); have y3 := Shp.rd_new (S := kS) w3 _ 33 D.zK rfl; have z3 := (below_up q2 q2.size b3).alloc (below_up q2 q2.size b3).size (.cells (kS.v D.zK) 33))
    | (go_at_call 18; (with_reducible refine (CT.out _).mono ?_); rintro e w2 ⟨rfl, b2⟩; have g2 := Shp.rd_on g1 b2; have v2 := Shp.rd_on v1 b2; have q2 := below_up q1 q1.size b2; have E2 := hE.on q2)
    | (go_at_call 21; (with_reducible refine (CP.out _ E0).mono ?_); rintro e w1 ⟨rfl, b1⟩; have g1 := Shp.rd_on (Shp.rd_on f0 b1) (below_alloc_ w1 (.cells (kS.v D.zK) 33)); have v1 := Shp.rd_new (S := kS) w1 _ 33 D.zK rfl; have q1 := (below_up z0 z0.size b1).alloc (below_up z0 z0.size b1).size (.cells (kS.v D.zK) 33)))
  go_ret
  exact ⟨by rfl, z9⟩

theorem ktexts_all (s : ByteArray) (k : D.Ky) (w : World) (hs : s.size ≤ maxLen) (hE : Env w) : Calls Tryz.prog 5 #[.string s, .agg (kS.v k)] w fun e w' => e = .returned (.bool true) ∧ Below w.heap.size w w' := by
  obtain ⟨m, hm1, hm2, hmin⟩ := min_run s.size 60 60 rfl
  have hus := Nat.le_trans (ext_le s m) hm2
  obtain ⟨u, hu⟩ : ∃ u, s.extract 0 m = u := ⟨_, rfl⟩
  rw [hu] at hus
  have heq : ∀ b, (u.toList == (D.sb (D.ktx k)).toList) = b → (b = true ↔ u = D.sb (D.ktx k)) := fun b hb => by
    rw [← hb, beq_iff_eq]
    exact ⟨toList_inj', fun h => by rw [h]⟩
  have hT := kparse_text k
  rcases D.kparse_two u with ⟨h1, h2, h3⟩ | h1
  · obtain ⟨⟨x, e⟩, hx⟩ : ∃ q, D.kparse u = q := ⟨_, rfl⟩
    rw [hx] at h1 h2 h3
    simp only at h1 h2 h3
    subst h1
    have hxt : D.sb (D.ktx x) = u := by rw [h3, D.sb_ns]
    cases hb : (u.toList == (D.sb (D.ktx k)).toList) with
    | true =>
      have hu' := (heq _ hb).1 rfl
      cases hk : D.kright k with
      | true => exact texts_a1 s u k w hE m hm1 hmin hu hus x hx h2 hxt hk hb
      | false =>
        rw [← hu', hx, hk] at hT
        cases hT
    | false =>
      cases hk : D.kright k with
      | true => exact texts_a2 s u k w hE m hm1 hmin hu hus x hx h2 hxt hk hb
      | false => exact texts_a3 s u k w hE m hm1 hmin hu hus x hx h2 hxt hk hb
  · cases hb : (u.toList == (D.sb (D.ktx k)).toList) with
    | true =>
      have hu' := (heq _ hb).1 rfl
      cases hk : D.kright k with
      | true =>
        rw [← hu', h1, hk] at hT
        cases hT
      | false => exact texts_b2 s u k w hE m hm1 hmin hu hus h1 hk hb
    | false =>
      cases hk : D.kright k with
      | true => exact texts_b1 s u k w hE m hm1 hmin hu hus h1 hk hb
      | false => exact texts_b3 s u k w hE m hm1 hmin hu hus h1 hk hb

end Go.Proofs.YtjblepjkejihcaaGreatDoor
