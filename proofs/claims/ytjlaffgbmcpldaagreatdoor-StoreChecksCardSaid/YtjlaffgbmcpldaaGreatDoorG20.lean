/-
  
-/
import Derived.Test.YtjlaffgbmcpldaaGreatDoorG19
import Derived.Deep.CutRange
import Derived.Test.YtjlaffgbmcpldaaGreatDoorG17
import Derived.IntWalk
import Derived.BigQuiet
import Derived.Deep.Light
import Derived.Test.YtjlaffgbmcpldaaGreatDoorG11
import Derived.Test.YtjlaffgbmcpldaaGreatDoorG10
import Derived.Laws.ResultCell
set_option linter.unusedVariables false
set_option linter.unusedSimpArgs false
set_option maxRecDepth 100000
namespace Go.Proofs.YtjlaffgbmcpldaaGreatDoor
open Go.RowKit
attribute [local go_sem ↓] Go.wp_at_zero Go.wp_at_succ

theorem has_is (s : ByteArray) (c : Nat) (b : Bool) (hs : s.size ≤ 1000) (hb : D.hsb s.data.toList c = b) (w : World) :
  Calls Tryz.prog 86 #[.string s, .int .u8 (c : Nat)] w fun en w' => en = .returned (.bool b) ∧ w = w' := by
 subst hb
 exact has_anyh s c w hs
section
variable {P : Program} {a : Act} {w : World} {o : Oper}
theorem ex_and {x y : Nat} {c n z : Bool} (ho : o.op = .pick (.tmp x) (.tmp y) (.const (.bool false))) (hx : Is a x c (.bool n)) (hy : Is a y (c && (n == true)) (.bool z)) (h : c = true) : (execOp a.eval o).run P w = .ok (.value (.bool (n && z))) w := by
 refine ex_pick ho (hx.get h) ?_
 subst h
 cases n
 ·rfl
 ·exact hy.get rfl
theorem ex_or {x y : Nat} {c n z : Bool} (ho : o.op = .pick (.tmp x) (.const (.bool true)) (.tmp y)) (hx : Is a x c (.bool n)) (hy : Is a y (c && (n == false)) (.bool z)) (h : c = true) : (execOp a.eval o).run P w = .ok (.value (.bool (n || z))) w := by
 refine ex_pick ho (hx.get h) ?_
 subst h
 cases n
 ·exact hy.get rfl
 ·rfl
theorem bin_gtr {k : IntKind} {T : TypeId} {u c : Int} {b : Bool} (h : decide (c < u) = b) : (binOp .gtr T (.int k u) (.int k c)).run P w = .ok (.bool b) w := by
 subst h
 simp [binOp, Op.intCmp, go_sem]
theorem bin_lss {k : IntKind} {T : TypeId} {u c : Int} {b : Bool} (h : decide (u < c) = b) : (binOp .lss T (.int k u) (.int k c)).run P w = .ok (.bool b) w := by
 subst h
 simp [binOp, Op.intCmp, go_sem]
theorem bin_geq {k : IntKind} {T : TypeId} {u c : Int} {b : Bool} (h : decide (c ≤ u) = b) : (binOp .geq T (.int k u) (.int k c)).run P w = .ok (.bool b) w := by
 subst h
 simp [binOp, Op.intCmp, go_sem]
theorem bin_eql {k : IntKind} {T : TypeId} {u c : Int} {b : Bool} (h : (u == c) = b) : (binOp .eql T (.int k u) (.int k c)).run P w = .ok (.bool b) w := by
 subst h
 simp [binOp, Op.intCmp, go_sem]
theorem bin_ne_str {T : TypeId} {t : ByteArray} {b : Bool} (h : (t.toList != []) = b) : (binOp .neq T (.string t) (.string ⟨#[]⟩)).run P w = .ok (.bool b) w := by
 subst h
 simp [binOp, Op.stringOp, go_sem]
 cases h : t.toList <;> simp
theorem eqg_int {op : BinOp} {T : TypeId} {x y : Operand} {k k' : IntKind} {u v : Int} : (eqGuard op T x y (.int k u) (.int k' v)).run P w = .ok () w := by
 cases op <;> rfl
theorem eqg_str {op : BinOp} {T : TypeId} {x y : Operand} {u v : ByteArray} : (eqGuard op T x y (.string u) (.string v)).run P w = .ok () w := by
 cases op <;> rfl
end
theorem start_act {P : Program} {ops : Array Oper} {Q : Exit → Act → World → Prop} {l : List Oper} {w : World} {a : Act} {m H : Nat} {z : ByteArray} (h1 : a.tmps.size = m) (h2 : a.defers = []) (h3 : Is a 1 true (.pointer (some ⟨H, 0, none⟩))) (h4 : Is a 3 true (.string z))
  (K : ∀ A : Act, A.tmps.size = m → A.defers = [] → Is A 1 true (.pointer (some ⟨H, 0, none⟩)) → Is A 3 true (.string z) → wpList P ops Q l A w) : wpList P ops Q l a w := K a h1 h2 h3 h4
set_option maxHeartbeats 8000000 in
theorem rcheck_ok (k s u p m v a : Nat) (g : Bool) (t : ByteArray) (w : World) (z : ByteArray) (hzk : D.usz k = z) (hz : z.size ≤ 1000) (hk : 1 ≤ k) (hk6 : k ≤ 6) (hU : ∀ W, Calls Tryz.prog 85 #[.int .i64 (k : Nat)] W fun en w' => en = .returned (.string z) ∧ Below W.heap.size W w') :
  Calls Tryz.prog 46 #[.agg (dS.v ⟨k, s, u, p, m, g, v, a, t⟩)] w fun en w' => en = .returned (.int .i64 (D.chk ⟨k, s, u, p, m, g, v, a, t⟩ : Nat)) ∧ Below w.heap.size w w' := by
 have HC := Kept.mk (D.chk_of (s := s) (u := u) (p := p) (m := m) (v := v) (a := a) (g := g) (t := t) hk hk6)
 obtain ⟨Lu_neq_0, hLu_neq_0⟩ : ∃ x, (((u : Nat) : Int) != 0) = x := ⟨_, rfl⟩
 obtain ⟨Lm_neq_0, hLm_neq_0⟩ : ∃ x, (((m : Nat) : Int) != 0) = x := ⟨_, rfl⟩
 obtain ⟨Lp_neq_0, hLp_neq_0⟩ : ∃ x, (((p : Nat) : Int) != 0) = x := ⟨_, rfl⟩
 obtain ⟨Ls_neq_0, hLs_neq_0⟩ : ∃ x, (((s : Nat) : Int) != 0) = x := ⟨_, rfl⟩
 obtain ⟨Lv_neq_0, hLv_neq_0⟩ : ∃ x, (((v : Nat) : Int) != 0) = x := ⟨_, rfl⟩
 obtain ⟨La_neq_0, hLa_neq_0⟩ : ∃ x, (((a : Nat) : Int) != 0) = x := ⟨_, rfl⟩
 obtain ⟨Lxt, hLxt⟩ : ∃ x, (t.toList != []) = x := ⟨_, rfl⟩
 obtain ⟨Lu_gtr_15, hLu_gtr_15⟩ : ∃ x, decide ((15 : Int) < ((u : Nat) : Int)) = x := ⟨_, rfl⟩
 obtain ⟨Lm_gtr_63, hLm_gtr_63⟩ : ∃ x, decide ((63 : Int) < ((m : Nat) : Int)) = x := ⟨_, rfl⟩
 obtain ⟨Lk_eql_2, hLk_eql_2⟩ : ∃ x, (((k : Nat) : Int) == (2 : Int)) = x := ⟨_, rfl⟩
 obtain ⟨Lm_eql_0, hLm_eql_0⟩ : ∃ x, (((m : Nat) : Int) == (0 : Int)) = x := ⟨_, rfl⟩
 obtain ⟨Lp_gtr_3, hLp_gtr_3⟩ : ∃ x, decide ((3 : Int) < ((p : Nat) : Int)) = x := ⟨_, rfl⟩
 obtain ⟨Lk_eql_4, hLk_eql_4⟩ : ∃ x, (((k : Nat) : Int) == (4 : Int)) = x := ⟨_, rfl⟩
 obtain ⟨Ls_gtr_1, hLs_gtr_1⟩ : ∃ x, decide ((1 : Int) < ((s : Nat) : Int)) = x := ⟨_, rfl⟩
 obtain ⟨Lk_eql_6, hLk_eql_6⟩ : ∃ x, (((k : Nat) : Int) == (6 : Int)) = x := ⟨_, rfl⟩
 obtain ⟨Ls_lss_1, hLs_lss_1⟩ : ∃ x, decide (((s : Nat) : Int) < (1 : Int)) = x := ⟨_, rfl⟩
 obtain ⟨Ls_gtr_5, hLs_gtr_5⟩ : ∃ x, decide ((5 : Int) < ((s : Nat) : Int)) = x := ⟨_, rfl⟩
 obtain ⟨Lk_geq_5, hLk_geq_5⟩ : ∃ x, decide ((5 : Int) ≤ ((k : Nat) : Int)) = x := ⟨_, rfl⟩
 obtain ⟨Lv_lss_1, hLv_lss_1⟩ : ∃ x, decide (((v : Nat) : Int) < (1 : Int)) = x := ⟨_, rfl⟩
 obtain ⟨Lv_gtr_4294967295, hLv_gtr_4294967295⟩ : ∃ x, decide ((4294967295 : Int) < ((v : Nat) : Int)) = x := ⟨_, rfl⟩
 obtain ⟨Lt_size_gtr_60, hLt_size_gtr_60⟩ : ∃ x, decide ((60 : Int) < ((t.size : Nat) : Int)) = x := ⟨_, rfl⟩
 have CU := Lib.hid hU
 clear hU
 go_enter Tryz.func46, Tryz.ntmps46
 have D0 := Lib.hid (Blk.new w 69 (dS.v ⟨k, s, u, p, m, g, v, a, t⟩))
 obtain ⟨c0, c1, c2, c3, c4, c5, c6, c7, c8⟩ := df_of (Shp.rd_blk D0.out)
 have B0 := Lib.hid (below_alloc w (.cells (dS.v ⟨k, s, u, p, m, g, v, a, t⟩) 69))
 have e1 : ¬ ((k : Int) < 1) := by omega
 have e2 : ¬ ((6 : Int) < (k : Int)) := by omega
 go_upto_region 4 with (first
  | (go_at_call 85; (with_reducible refine (CU.out _).mono ?_); rintro en w1 ⟨rfl, b1⟩; have B1 := Lib.hid b1; have D1 := Lib.hid (D0.out.on b1); clear b1 c0 c1 c2 c3 c4 c5 c6 c7 c8))
 obtain ⟨c0, c1, c2, c3, c4, c5, c6, c7, c8⟩ := df_of (Shp.rd_blk D1.out)
 obtain ⟨H, hH⟩ : ∃ H, w.heap.size = H := ⟨_, rfl⟩
 rw [hH] at c0 c1 c2 c3 c4 c5 c6 c7 c8
 obtain ⟨H117, hH117⟩ : ∃ x, D.hsb z.data.toList 117 = x := ⟨_, rfl⟩
 have CH117 : Calls Tryz.prog 86 #[.string z, .int .u8 117] w1 fun en w' => en = .returned (.bool H117) ∧ w1 = w' := has_is z 117 H117 hz hH117 w1
 obtain ⟨H109, hH109⟩ : ∃ x, D.hsb z.data.toList 109 = x := ⟨_, rfl⟩
 have CH109 : Calls Tryz.prog 86 #[.string z, .int .u8 109] w1 fun en w' => en = .returned (.bool H109) ∧ w1 = w' := has_is z 109 H109 hz hH109 w1
 obtain ⟨H112, hH112⟩ : ∃ x, D.hsb z.data.toList 112 = x := ⟨_, rfl⟩
 have CH112 : Calls Tryz.prog 86 #[.string z, .int .u8 112] w1 fun en w' => en = .returned (.bool H112) ∧ w1 = w' := has_is z 112 H112 hz hH112 w1
 obtain ⟨H115, hH115⟩ : ∃ x, D.hsb z.data.toList 115 = x := ⟨_, rfl⟩
 have CH115 : Calls Tryz.prog 86 #[.string z, .int .u8 115] w1 fun en w' => en = .returned (.bool H115) ∧ w1 = w' := has_is z 115 H115 hz hH115 w1
 obtain ⟨H103, hH103⟩ : ∃ x, D.hsb z.data.toList 103 = x := ⟨_, rfl⟩
 have CH103 : Calls Tryz.prog 86 #[.string z, .int .u8 103] w1 fun en w' => en = .returned (.bool H103) ∧ w1 = w' := has_is z 103 H103 hz hH103 w1
 obtain ⟨H114, hH114⟩ : ∃ x, D.hsb z.data.toList 114 = x := ⟨_, rfl⟩
 have CH114 : Calls Tryz.prog 86 #[.string z, .int .u8 114] w1 fun en w' => en = .returned (.bool H114) ∧ w1 = w' := has_is z 114 H114 hz hH114 w1
 obtain ⟨H97, hH97⟩ : ∃ x, D.hsb z.data.toList 97 = x := ⟨_, rfl⟩
 have CH97 : Calls Tryz.prog 86 #[.string z, .int .u8 97] w1 fun en w' => en = .returned (.bool H97) ∧ w1 = w' := has_is z 97 H97 hz hH97 w1
 obtain ⟨H116, hH116⟩ : ∃ x, D.hsb z.data.toList 116 = x := ⟨_, rfl⟩
 have CH116 : Calls Tryz.prog 86 #[.string z, .int .u8 116] w1 fun en w' => en = .returned (.bool H116) ∧ w1 = w' := has_is z 116 H116 hz hH116 w1
 refine wp_region_lit ?_
 refine start_act (m := 166) (H := H) (z := z) rfl rfl ⟨by rw [← hH]; rfl⟩ ⟨rfl⟩ ?_
 intro A sz dz i1 i3
 refine st_val 15 rfl sz (by decide) true (wanted_none rfl) (.pointer (some ⟨H, 2, none⟩)) (fun h => ex_fa2 rfl (i1.get rfl)) ?_
 intro A sz' dz' i15 jz
 replace i1 := i1.mv (jz 1 (by decide))
 replace i3 := i3.mv (jz 3 (by decide))
 replace dz := dz'.trans dz
 clear jz dz' sz
 have sz := sz'
 clear sz'
 refine st_val 16 rfl sz (by decide) true (wanted_none rfl) (.int .i64 (u : Nat)) (fun h => ex_load Tryz.isAgg3 rfl (i15.get rfl) c2) ?_
 intro A sz' dz' i16 jz
 replace i1 := i1.mv (jz 1 (by decide))
 replace i3 := i3.mv (jz 3 (by decide))
 replace dz := dz'.trans dz
 clear jz dz' sz i15
 have sz := sz'
 clear sz'
 refine st_val 17 rfl sz (by decide) true (wanted_none rfl) (.bool Lu_neq_0) (fun h => ex_bin rfl (i16.get rfl) rfl (bin_ne_int hLu_neq_0) eqg_int) ?_
 intro A sz' dz' i17 jz
 replace i1 := i1.mv (jz 1 (by decide))
 replace i3 := i3.mv (jz 3 (by decide))
 replace dz := dz'.trans dz
 clear jz dz' sz i16
 have sz := sz'
 clear sz'
 refine st_val 18 rfl sz (by decide) true (wanted_none rfl) (.bool Lu_neq_0) (fun h => ex_move rfl (i17.get rfl)) ?_
 intro A sz' dz' i18 jz
 replace i1 := i1.mv (jz 1 (by decide))
 replace i3 := i3.mv (jz 3 (by decide))
 replace dz := dz'.trans dz
 clear jz dz' sz i17
 have sz := sz'
 clear sz'
 refine st_val 19 rfl sz (by decide) (true && (Lu_neq_0 == true)) (wanted_some rfl rfl (by rw [sz]; decide) i18) (.string z) (fun h => ex_move rfl (i3.get rfl)) ?_
 intro A sz' dz' i19 jz
 replace i1 := i1.mv (jz 1 (by decide))
 replace i3 := i3.mv (jz 3 (by decide))
 replace i18 := i18.mv (jz 18 (by decide))
 replace dz := dz'.trans dz
 clear jz dz' sz
 have sz := sz'
 clear sz'
 refine st_call 20 rfl sz (by decide) (true && (Lu_neq_0 == true)) (wanted_some rfl rfl (by rw [sz]; decide) i18) (.bool H117) _ _ (fun h => ex_has rfl (i19.get h) rfl rfl) CH117 ?_
 intro A sz' dz' i20 jz
 replace i1 := i1.mv (jz 1 (by decide))
 replace i3 := i3.mv (jz 3 (by decide))
 replace i18 := i18.mv (jz 18 (by decide))
 replace dz := dz'.trans dz
 clear jz dz' sz i19
 have sz := sz'
 clear sz'
 refine st_val 21 rfl sz (by decide) (true && (Lu_neq_0 == true)) (wanted_some rfl rfl (by rw [sz]; decide) i18) (.bool (!H117)) (fun h => ex_not rfl (i20.get h)) ?_
 intro A sz' dz' i21 jz
 replace i1 := i1.mv (jz 1 (by decide))
 replace i3 := i3.mv (jz 3 (by decide))
 replace i18 := i18.mv (jz 18 (by decide))
 replace dz := dz'.trans dz
 clear jz dz' sz i20
 have sz := sz'
 clear sz'
 refine st_val 22 rfl sz (by decide) true (wanted_none rfl) (.bool (Lu_neq_0 && (!H117))) (fun h => ex_and rfl i18 i21 rfl) ?_
 intro A sz' dz' i22 jz
 replace i1 := i1.mv (jz 1 (by decide))
 replace i3 := i3.mv (jz 3 (by decide))
 replace dz := dz'.trans dz
 clear jz dz' sz i18 i21
 have sz := sz'
 clear sz'
 obtain ⟨P15_1, eP15_1⟩ : ∃ x, (Lu_neq_0 && (!H117)) = x := ⟨_, rfl⟩
 rw [eP15_1] at i22
 refine st_val 23 rfl sz (by decide) true (wanted_none rfl) (.bool P15_1) (fun h => ex_move rfl (i22.get rfl)) ?_
 intro A sz' dz' i23 jz
 replace i1 := i1.mv (jz 1 (by decide))
 replace i3 := i3.mv (jz 3 (by decide))
 replace dz := dz'.trans dz
 clear jz dz' sz i22
 have sz := sz'
 clear sz'
 refine st_val 24 rfl sz (by decide) (true && (P15_1 == false)) (wanted_some rfl rfl (by rw [sz]; decide) i23) (.pointer (some ⟨H, 4, none⟩)) (fun h => ex_fa4 rfl (i1.get rfl)) ?_
 intro A sz' dz' i24 jz
 replace i1 := i1.mv (jz 1 (by decide))
 replace i3 := i3.mv (jz 3 (by decide))
 replace i23 := i23.mv (jz 23 (by decide))
 replace dz := dz'.trans dz
 clear jz dz' sz
 have sz := sz'
 clear sz'
 refine st_val 25 rfl sz (by decide) (true && (P15_1 == false)) (wanted_some rfl rfl (by rw [sz]; decide) i23) (.int .i64 (m : Nat)) (fun h => ex_load Tryz.isAgg3 rfl (i24.get h) c4) ?_
 intro A sz' dz' i25 jz
 replace i1 := i1.mv (jz 1 (by decide))
 replace i3 := i3.mv (jz 3 (by decide))
 replace i23 := i23.mv (jz 23 (by decide))
 replace dz := dz'.trans dz
 clear jz dz' sz i24
 have sz := sz'
 clear sz'
 refine st_val 26 rfl sz (by decide) (true && (P15_1 == false)) (wanted_some rfl rfl (by rw [sz]; decide) i23) (.bool Lm_neq_0) (fun h => ex_bin rfl (i25.get h) rfl (bin_ne_int hLm_neq_0) eqg_int) ?_
 intro A sz' dz' i26 jz
 replace i1 := i1.mv (jz 1 (by decide))
 replace i3 := i3.mv (jz 3 (by decide))
 replace i23 := i23.mv (jz 23 (by decide))
 replace dz := dz'.trans dz
 clear jz dz' sz i25
 have sz := sz'
 clear sz'
 refine st_val 27 rfl sz (by decide) (true && (P15_1 == false)) (wanted_some rfl rfl (by rw [sz]; decide) i23) (.bool Lm_neq_0) (fun h => ex_move rfl (i26.get h)) ?_
 intro A sz' dz' i27 jz
 replace i1 := i1.mv (jz 1 (by decide))
 replace i3 := i3.mv (jz 3 (by decide))
 replace i23 := i23.mv (jz 23 (by decide))
 replace dz := dz'.trans dz
 clear jz dz' sz i26
 have sz := sz'
 clear sz'
 refine st_val 28 rfl sz (by decide) ((true && (P15_1 == false)) && (Lm_neq_0 == true)) (wanted_some rfl rfl (by rw [sz]; decide) i27) (.string z) (fun h => ex_move rfl (i3.get rfl)) ?_
 intro A sz' dz' i28 jz
 replace i1 := i1.mv (jz 1 (by decide))
 replace i3 := i3.mv (jz 3 (by decide))
 replace i23 := i23.mv (jz 23 (by decide))
 replace i27 := i27.mv (jz 27 (by decide))
 replace dz := dz'.trans dz
 clear jz dz' sz
 have sz := sz'
 clear sz'
 refine st_call 29 rfl sz (by decide) ((true && (P15_1 == false)) && (Lm_neq_0 == true)) (wanted_some rfl rfl (by rw [sz]; decide) i27) (.bool H109) _ _ (fun h => ex_has rfl (i28.get h) rfl rfl) CH109 ?_
 intro A sz' dz' i29 jz
 replace i1 := i1.mv (jz 1 (by decide))
 replace i3 := i3.mv (jz 3 (by decide))
 replace i23 := i23.mv (jz 23 (by decide))
 replace i27 := i27.mv (jz 27 (by decide))
 replace dz := dz'.trans dz
 clear jz dz' sz i28
 have sz := sz'
 clear sz'
 refine st_val 30 rfl sz (by decide) ((true && (P15_1 == false)) && (Lm_neq_0 == true)) (wanted_some rfl rfl (by rw [sz]; decide) i27) (.bool (!H109)) (fun h => ex_not rfl (i29.get h)) ?_
 intro A sz' dz' i30 jz
 replace i1 := i1.mv (jz 1 (by decide))
 replace i3 := i3.mv (jz 3 (by decide))
 replace i23 := i23.mv (jz 23 (by decide))
 replace i27 := i27.mv (jz 27 (by decide))
 replace dz := dz'.trans dz
 clear jz dz' sz i29
 have sz := sz'
 clear sz'
 refine st_val 31 rfl sz (by decide) (true && (P15_1 == false)) (wanted_some rfl rfl (by rw [sz]; decide) i23) (.bool (Lm_neq_0 && (!H109))) (fun h => ex_and rfl i27 i30 h) ?_
 intro A sz' dz' i31 jz
 replace i1 := i1.mv (jz 1 (by decide))
 replace i3 := i3.mv (jz 3 (by decide))
 replace i23 := i23.mv (jz 23 (by decide))
 replace dz := dz'.trans dz
 clear jz dz' sz i27 i30
 have sz := sz'
 clear sz'
 obtain ⟨P15_2, eP15_2⟩ : ∃ x, (Lm_neq_0 && (!H109)) = x := ⟨_, rfl⟩
 rw [eP15_2] at i31
 refine st_val 32 rfl sz (by decide) true (wanted_none rfl) (.bool (P15_1 || P15_2)) (fun h => ex_or rfl i23 i31 rfl) ?_
 intro A sz' dz' i32 jz
 replace i1 := i1.mv (jz 1 (by decide))
 replace i3 := i3.mv (jz 3 (by decide))
 replace dz := dz'.trans dz
 clear jz dz' sz i23 i31
 have sz := sz'
 clear sz'
 obtain ⟨P15_3, eP15_3⟩ : ∃ x, (P15_1 || P15_2) = x := ⟨_, rfl⟩
 rw [eP15_3] at i32
 refine st_val 33 rfl sz (by decide) true (wanted_none rfl) (.bool P15_3) (fun h => ex_move rfl (i32.get rfl)) ?_
 intro A sz' dz' i33 jz
 replace i1 := i1.mv (jz 1 (by decide))
 replace i3 := i3.mv (jz 3 (by decide))
 replace dz := dz'.trans dz
 clear jz dz' sz i32
 have sz := sz'
 clear sz'
 refine st_val 34 rfl sz (by decide) (true && (P15_3 == false)) (wanted_some rfl rfl (by rw [sz]; decide) i33) (.pointer (some ⟨H, 3, none⟩)) (fun h => ex_fa3 rfl (i1.get rfl)) ?_
 intro A sz' dz' i34 jz
 replace i1 := i1.mv (jz 1 (by decide))
 replace i3 := i3.mv (jz 3 (by decide))
 replace i33 := i33.mv (jz 33 (by decide))
 replace dz := dz'.trans dz
 clear jz dz' sz
 have sz := sz'
 clear sz'
 refine st_val 35 rfl sz (by decide) (true && (P15_3 == false)) (wanted_some rfl rfl (by rw [sz]; decide) i33) (.int .i64 (p : Nat)) (fun h => ex_load Tryz.isAgg3 rfl (i34.get h) c3) ?_
 intro A sz' dz' i35 jz
 replace i1 := i1.mv (jz 1 (by decide))
 replace i3 := i3.mv (jz 3 (by decide))
 replace i33 := i33.mv (jz 33 (by decide))
 replace dz := dz'.trans dz
 clear jz dz' sz i34
 have sz := sz'
 clear sz'
 refine st_val 36 rfl sz (by decide) (true && (P15_3 == false)) (wanted_some rfl rfl (by rw [sz]; decide) i33) (.bool Lp_neq_0) (fun h => ex_bin rfl (i35.get h) rfl (bin_ne_int hLp_neq_0) eqg_int) ?_
 intro A sz' dz' i36 jz
 replace i1 := i1.mv (jz 1 (by decide))
 replace i3 := i3.mv (jz 3 (by decide))
 replace i33 := i33.mv (jz 33 (by decide))
 replace dz := dz'.trans dz
 clear jz dz' sz i35
 have sz := sz'
 clear sz'
 refine st_val 37 rfl sz (by decide) (true && (P15_3 == false)) (wanted_some rfl rfl (by rw [sz]; decide) i33) (.bool Lp_neq_0) (fun h => ex_move rfl (i36.get h)) ?_
 intro A sz' dz' i37 jz
 replace i1 := i1.mv (jz 1 (by decide))
 replace i3 := i3.mv (jz 3 (by decide))
 replace i33 := i33.mv (jz 33 (by decide))
 replace dz := dz'.trans dz
 clear jz dz' sz i36
 have sz := sz'
 clear sz'
 refine st_val 38 rfl sz (by decide) ((true && (P15_3 == false)) && (Lp_neq_0 == true)) (wanted_some rfl rfl (by rw [sz]; decide) i37) (.string z) (fun h => ex_move rfl (i3.get rfl)) ?_
 intro A sz' dz' i38 jz
 replace i1 := i1.mv (jz 1 (by decide))
 replace i3 := i3.mv (jz 3 (by decide))
 replace i33 := i33.mv (jz 33 (by decide))
 replace i37 := i37.mv (jz 37 (by decide))
 replace dz := dz'.trans dz
 clear jz dz' sz
 have sz := sz'
 clear sz'
 refine st_call 39 rfl sz (by decide) ((true && (P15_3 == false)) && (Lp_neq_0 == true)) (wanted_some rfl rfl (by rw [sz]; decide) i37) (.bool H112) _ _ (fun h => ex_has rfl (i38.get h) rfl rfl) CH112 ?_
 intro A sz' dz' i39 jz
 replace i1 := i1.mv (jz 1 (by decide))
 replace i3 := i3.mv (jz 3 (by decide))
 replace i33 := i33.mv (jz 33 (by decide))
 replace i37 := i37.mv (jz 37 (by decide))
 replace dz := dz'.trans dz
 clear jz dz' sz i38
 have sz := sz'
 clear sz'
 refine st_val 40 rfl sz (by decide) ((true && (P15_3 == false)) && (Lp_neq_0 == true)) (wanted_some rfl rfl (by rw [sz]; decide) i37) (.bool (!H112)) (fun h => ex_not rfl (i39.get h)) ?_
 intro A sz' dz' i40 jz
 replace i1 := i1.mv (jz 1 (by decide))
 replace i3 := i3.mv (jz 3 (by decide))
 replace i33 := i33.mv (jz 33 (by decide))
 replace i37 := i37.mv (jz 37 (by decide))
 replace dz := dz'.trans dz
 clear jz dz' sz i39
 have sz := sz'
 clear sz'
 refine st_val 41 rfl sz (by decide) (true && (P15_3 == false)) (wanted_some rfl rfl (by rw [sz]; decide) i33) (.bool (Lp_neq_0 && (!H112))) (fun h => ex_and rfl i37 i40 h) ?_
 intro A sz' dz' i41 jz
 replace i1 := i1.mv (jz 1 (by decide))
 replace i3 := i3.mv (jz 3 (by decide))
 replace i33 := i33.mv (jz 33 (by decide))
 replace dz := dz'.trans dz
 clear jz dz' sz i37 i40
 have sz := sz'
 clear sz'
 obtain ⟨P15_4, eP15_4⟩ : ∃ x, (Lp_neq_0 && (!H112)) = x := ⟨_, rfl⟩
 rw [eP15_4] at i41
 refine st_val 42 rfl sz (by decide) true (wanted_none rfl) (.bool (P15_3 || P15_4)) (fun h => ex_or rfl i33 i41 rfl) ?_
 intro A sz' dz' i42 jz
 replace i1 := i1.mv (jz 1 (by decide))
 replace i3 := i3.mv (jz 3 (by decide))
 replace dz := dz'.trans dz
 clear jz dz' sz i33 i41
 have sz := sz'
 clear sz'
 obtain ⟨P15_5, eP15_5⟩ : ∃ x, (P15_3 || P15_4) = x := ⟨_, rfl⟩
 rw [eP15_5] at i42
 refine st_val 43 rfl sz (by decide) true (wanted_none rfl) (.bool P15_5) (fun h => ex_move rfl (i42.get rfl)) ?_
 intro A sz' dz' i43 jz
 replace i1 := i1.mv (jz 1 (by decide))
 replace i3 := i3.mv (jz 3 (by decide))
 replace dz := dz'.trans dz
 clear jz dz' sz i42
 have sz := sz'
 clear sz'
 refine st_val 44 rfl sz (by decide) (true && (P15_5 == false)) (wanted_some rfl rfl (by rw [sz]; decide) i43) (.pointer (some ⟨H, 1, none⟩)) (fun h => ex_fa1 rfl (i1.get rfl)) ?_
 intro A sz' dz' i44 jz
 replace i1 := i1.mv (jz 1 (by decide))
 replace i3 := i3.mv (jz 3 (by decide))
 replace i43 := i43.mv (jz 43 (by decide))
 replace dz := dz'.trans dz
 clear jz dz' sz
 have sz := sz'
 clear sz'
 refine st_val 45 rfl sz (by decide) (true && (P15_5 == false)) (wanted_some rfl rfl (by rw [sz]; decide) i43) (.int .i64 (s : Nat)) (fun h => ex_load Tryz.isAgg3 rfl (i44.get h) c1) ?_
 intro A sz' dz' i45 jz
 replace i1 := i1.mv (jz 1 (by decide))
 replace i3 := i3.mv (jz 3 (by decide))
 replace i43 := i43.mv (jz 43 (by decide))
 replace dz := dz'.trans dz
 clear jz dz' sz i44
 have sz := sz'
 clear sz'
 refine st_val 46 rfl sz (by decide) (true && (P15_5 == false)) (wanted_some rfl rfl (by rw [sz]; decide) i43) (.bool Ls_neq_0) (fun h => ex_bin rfl (i45.get h) rfl (bin_ne_int hLs_neq_0) eqg_int) ?_
 intro A sz' dz' i46 jz
 replace i1 := i1.mv (jz 1 (by decide))
 replace i3 := i3.mv (jz 3 (by decide))
 replace i43 := i43.mv (jz 43 (by decide))
 replace dz := dz'.trans dz
 clear jz dz' sz i45
 have sz := sz'
 clear sz'
 refine st_val 47 rfl sz (by decide) (true && (P15_5 == false)) (wanted_some rfl rfl (by rw [sz]; decide) i43) (.bool Ls_neq_0) (fun h => ex_move rfl (i46.get h)) ?_
 intro A sz' dz' i47 jz
 replace i1 := i1.mv (jz 1 (by decide))
 replace i3 := i3.mv (jz 3 (by decide))
 replace i43 := i43.mv (jz 43 (by decide))
 replace dz := dz'.trans dz
 clear jz dz' sz i46
 have sz := sz'
 clear sz'
 refine st_val 48 rfl sz (by decide) ((true && (P15_5 == false)) && (Ls_neq_0 == true)) (wanted_some rfl rfl (by rw [sz]; decide) i47) (.string z) (fun h => ex_move rfl (i3.get rfl)) ?_
 intro A sz' dz' i48 jz
 replace i1 := i1.mv (jz 1 (by decide))
 replace i3 := i3.mv (jz 3 (by decide))
 replace i43 := i43.mv (jz 43 (by decide))
 replace i47 := i47.mv (jz 47 (by decide))
 replace dz := dz'.trans dz
 clear jz dz' sz
 have sz := sz'
 clear sz'
 refine st_call 49 rfl sz (by decide) ((true && (P15_5 == false)) && (Ls_neq_0 == true)) (wanted_some rfl rfl (by rw [sz]; decide) i47) (.bool H115) _ _ (fun h => ex_has rfl (i48.get h) rfl rfl) CH115 ?_
 intro A sz' dz' i49 jz
 replace i1 := i1.mv (jz 1 (by decide))
 replace i3 := i3.mv (jz 3 (by decide))
 replace i43 := i43.mv (jz 43 (by decide))
 replace i47 := i47.mv (jz 47 (by decide))
 replace dz := dz'.trans dz
 clear jz dz' sz i48
 have sz := sz'
 clear sz'
 refine st_val 50 rfl sz (by decide) ((true && (P15_5 == false)) && (Ls_neq_0 == true)) (wanted_some rfl rfl (by rw [sz]; decide) i47) (.bool (!H115)) (fun h => ex_not rfl (i49.get h)) ?_
 intro A sz' dz' i50 jz
 replace i1 := i1.mv (jz 1 (by decide))
 replace i3 := i3.mv (jz 3 (by decide))
 replace i43 := i43.mv (jz 43 (by decide))
 replace i47 := i47.mv (jz 47 (by decide))
 replace dz := dz'.trans dz
 clear jz dz' sz i49
 have sz := sz'
 clear sz'
 refine st_val 51 rfl sz (by decide) (true && (P15_5 == false)) (wanted_some rfl rfl (by rw [sz]; decide) i43) (.bool (Ls_neq_0 && (!H115))) (fun h => ex_and rfl i47 i50 h) ?_
 intro A sz' dz' i51 jz
 replace i1 := i1.mv (jz 1 (by decide))
 replace i3 := i3.mv (jz 3 (by decide))
 replace i43 := i43.mv (jz 43 (by decide))
 replace dz := dz'.trans dz
 clear jz dz' sz i47 i50
 have sz := sz'
 clear sz'
 obtain ⟨P15_6, eP15_6⟩ : ∃ x, (Ls_neq_0 && (!H115)) = x := ⟨_, rfl⟩
 rw [eP15_6] at i51
 refine st_val 52 rfl sz (by decide) true (wanted_none rfl) (.bool (P15_5 || P15_6)) (fun h => ex_or rfl i43 i51 rfl) ?_
 intro A sz' dz' i52 jz
 replace i1 := i1.mv (jz 1 (by decide))
 replace i3 := i3.mv (jz 3 (by decide))
 replace dz := dz'.trans dz
 clear jz dz' sz i43 i51
 have sz := sz'
 clear sz'
 obtain ⟨P15_7, eP15_7⟩ : ∃ x, (P15_5 || P15_6) = x := ⟨_, rfl⟩
 rw [eP15_7] at i52
 refine st_val 53 rfl sz (by decide) true (wanted_none rfl) (.bool P15_7) (fun h => ex_move rfl (i52.get rfl)) ?_
 intro A sz' dz' i53 jz
 replace i1 := i1.mv (jz 1 (by decide))
 replace i3 := i3.mv (jz 3 (by decide))
 replace dz := dz'.trans dz
 clear jz dz' sz i52
 have sz := sz'
 clear sz'
 refine st_val 54 rfl sz (by decide) (true && (P15_7 == false)) (wanted_some rfl rfl (by rw [sz]; decide) i53) (.pointer (some ⟨H, 5, none⟩)) (fun h => ex_fa5 rfl (i1.get rfl)) ?_
 intro A sz' dz' i54 jz
 replace i1 := i1.mv (jz 1 (by decide))
 replace i3 := i3.mv (jz 3 (by decide))
 replace i53 := i53.mv (jz 53 (by decide))
 replace dz := dz'.trans dz
 clear jz dz' sz
 have sz := sz'
 clear sz'
 refine st_val 55 rfl sz (by decide) (true && (P15_7 == false)) (wanted_some rfl rfl (by rw [sz]; decide) i53) (.bool g) (fun h => ex_load Tryz.isAgg4 rfl (i54.get h) c5) ?_
 intro A sz' dz' i55 jz
 replace i1 := i1.mv (jz 1 (by decide))
 replace i3 := i3.mv (jz 3 (by decide))
 replace i53 := i53.mv (jz 53 (by decide))
 replace dz := dz'.trans dz
 clear jz dz' sz i54
 have sz := sz'
 clear sz'
 refine st_val 56 rfl sz (by decide) (true && (P15_7 == false)) (wanted_some rfl rfl (by rw [sz]; decide) i53) (.bool g) (fun h => ex_move rfl (i55.get h)) ?_
 intro A sz' dz' i56 jz
 replace i1 := i1.mv (jz 1 (by decide))
 replace i3 := i3.mv (jz 3 (by decide))
 replace i53 := i53.mv (jz 53 (by decide))
 replace dz := dz'.trans dz
 clear jz dz' sz i55
 have sz := sz'
 clear sz'
 refine st_val 57 rfl sz (by decide) ((true && (P15_7 == false)) && (g == true)) (wanted_some rfl rfl (by rw [sz]; decide) i56) (.string z) (fun h => ex_move rfl (i3.get rfl)) ?_
 intro A sz' dz' i57 jz
 replace i1 := i1.mv (jz 1 (by decide))
 replace i3 := i3.mv (jz 3 (by decide))
 replace i53 := i53.mv (jz 53 (by decide))
 replace i56 := i56.mv (jz 56 (by decide))
 replace dz := dz'.trans dz
 clear jz dz' sz
 have sz := sz'
 clear sz'
 refine st_call 58 rfl sz (by decide) ((true && (P15_7 == false)) && (g == true)) (wanted_some rfl rfl (by rw [sz]; decide) i56) (.bool H103) _ _ (fun h => ex_has rfl (i57.get h) rfl rfl) CH103 ?_
 intro A sz' dz' i58 jz
 replace i1 := i1.mv (jz 1 (by decide))
 replace i3 := i3.mv (jz 3 (by decide))
 replace i53 := i53.mv (jz 53 (by decide))
 replace i56 := i56.mv (jz 56 (by decide))
 replace dz := dz'.trans dz
 clear jz dz' sz i57
 have sz := sz'
 clear sz'
 refine st_val 59 rfl sz (by decide) ((true && (P15_7 == false)) && (g == true)) (wanted_some rfl rfl (by rw [sz]; decide) i56) (.bool (!H103)) (fun h => ex_not rfl (i58.get h)) ?_
 intro A sz' dz' i59 jz
 replace i1 := i1.mv (jz 1 (by decide))
 replace i3 := i3.mv (jz 3 (by decide))
 replace i53 := i53.mv (jz 53 (by decide))
 replace i56 := i56.mv (jz 56 (by decide))
 replace dz := dz'.trans dz
 clear jz dz' sz i58
 have sz := sz'
 clear sz'
 refine st_val 60 rfl sz (by decide) (true && (P15_7 == false)) (wanted_some rfl rfl (by rw [sz]; decide) i53) (.bool (g && (!H103))) (fun h => ex_and rfl i56 i59 h) ?_
 intro A sz' dz' i60 jz
 replace i1 := i1.mv (jz 1 (by decide))
 replace i3 := i3.mv (jz 3 (by decide))
 replace i53 := i53.mv (jz 53 (by decide))
 replace dz := dz'.trans dz
 clear jz dz' sz i56 i59
 have sz := sz'
 clear sz'
 obtain ⟨P15_8, eP15_8⟩ : ∃ x, (g && (!H103)) = x := ⟨_, rfl⟩
 rw [eP15_8] at i60
 refine st_val 61 rfl sz (by decide) true (wanted_none rfl) (.bool (P15_7 || P15_8)) (fun h => ex_or rfl i53 i60 rfl) ?_
 intro A sz' dz' i61 jz
 replace i1 := i1.mv (jz 1 (by decide))
 replace i3 := i3.mv (jz 3 (by decide))
 replace dz := dz'.trans dz
 clear jz dz' sz i53 i60
 have sz := sz'
 clear sz'
 obtain ⟨P15_9, eP15_9⟩ : ∃ x, (P15_7 || P15_8) = x := ⟨_, rfl⟩
 rw [eP15_9] at i61
 refine st_val 62 rfl sz (by decide) true (wanted_none rfl) (.bool P15_9) (fun h => ex_move rfl (i61.get rfl)) ?_
 intro A sz' dz' i62 jz
 replace i1 := i1.mv (jz 1 (by decide))
 replace i3 := i3.mv (jz 3 (by decide))
 replace dz := dz'.trans dz
 clear jz dz' sz i61
 have sz := sz'
 clear sz'
 refine st_val 63 rfl sz (by decide) (true && (P15_9 == false)) (wanted_some rfl rfl (by rw [sz]; decide) i62) (.pointer (some ⟨H, 6, none⟩)) (fun h => ex_fa6 rfl (i1.get rfl)) ?_
 intro A sz' dz' i63 jz
 replace i1 := i1.mv (jz 1 (by decide))
 replace i3 := i3.mv (jz 3 (by decide))
 replace i62 := i62.mv (jz 62 (by decide))
 replace dz := dz'.trans dz
 clear jz dz' sz
 have sz := sz'
 clear sz'
 refine st_val 64 rfl sz (by decide) (true && (P15_9 == false)) (wanted_some rfl rfl (by rw [sz]; decide) i62) (.int .u64 (v : Nat)) (fun h => ex_load Tryz.isAgg42 rfl (i63.get h) c6) ?_
 intro A sz' dz' i64 jz
 replace i1 := i1.mv (jz 1 (by decide))
 replace i3 := i3.mv (jz 3 (by decide))
 replace i62 := i62.mv (jz 62 (by decide))
 replace dz := dz'.trans dz
 clear jz dz' sz i63
 have sz := sz'
 clear sz'
 refine st_val 65 rfl sz (by decide) (true && (P15_9 == false)) (wanted_some rfl rfl (by rw [sz]; decide) i62) (.bool Lv_neq_0) (fun h => ex_bin rfl (i64.get h) rfl (bin_ne_int hLv_neq_0) eqg_int) ?_
 intro A sz' dz' i65 jz
 replace i1 := i1.mv (jz 1 (by decide))
 replace i3 := i3.mv (jz 3 (by decide))
 replace i62 := i62.mv (jz 62 (by decide))
 replace dz := dz'.trans dz
 clear jz dz' sz i64
 have sz := sz'
 clear sz'
 refine st_val 66 rfl sz (by decide) (true && (P15_9 == false)) (wanted_some rfl rfl (by rw [sz]; decide) i62) (.bool Lv_neq_0) (fun h => ex_move rfl (i65.get h)) ?_
 intro A sz' dz' i66 jz
 replace i1 := i1.mv (jz 1 (by decide))
 replace i3 := i3.mv (jz 3 (by decide))
 replace i62 := i62.mv (jz 62 (by decide))
 replace dz := dz'.trans dz
 clear jz dz' sz i65
 have sz := sz'
 clear sz'
 refine st_val 67 rfl sz (by decide) ((true && (P15_9 == false)) && (Lv_neq_0 == true)) (wanted_some rfl rfl (by rw [sz]; decide) i66) (.string z) (fun h => ex_move rfl (i3.get rfl)) ?_
 intro A sz' dz' i67 jz
 replace i1 := i1.mv (jz 1 (by decide))
 replace i3 := i3.mv (jz 3 (by decide))
 replace i62 := i62.mv (jz 62 (by decide))
 replace i66 := i66.mv (jz 66 (by decide))
 replace dz := dz'.trans dz
 clear jz dz' sz
 have sz := sz'
 clear sz'
 refine st_call 68 rfl sz (by decide) ((true && (P15_9 == false)) && (Lv_neq_0 == true)) (wanted_some rfl rfl (by rw [sz]; decide) i66) (.bool H114) _ _ (fun h => ex_has rfl (i67.get h) rfl rfl) CH114 ?_
 intro A sz' dz' i68 jz
 replace i1 := i1.mv (jz 1 (by decide))
 replace i3 := i3.mv (jz 3 (by decide))
 replace i62 := i62.mv (jz 62 (by decide))
 replace i66 := i66.mv (jz 66 (by decide))
 replace dz := dz'.trans dz
 clear jz dz' sz i67
 have sz := sz'
 clear sz'
 refine st_val 69 rfl sz (by decide) ((true && (P15_9 == false)) && (Lv_neq_0 == true)) (wanted_some rfl rfl (by rw [sz]; decide) i66) (.bool (!H114)) (fun h => ex_not rfl (i68.get h)) ?_
 intro A sz' dz' i69 jz
 replace i1 := i1.mv (jz 1 (by decide))
 replace i3 := i3.mv (jz 3 (by decide))
 replace i62 := i62.mv (jz 62 (by decide))
 replace i66 := i66.mv (jz 66 (by decide))
 replace dz := dz'.trans dz
 clear jz dz' sz i68
 have sz := sz'
 clear sz'
 refine st_val 70 rfl sz (by decide) (true && (P15_9 == false)) (wanted_some rfl rfl (by rw [sz]; decide) i62) (.bool (Lv_neq_0 && (!H114))) (fun h => ex_and rfl i66 i69 h) ?_
 intro A sz' dz' i70 jz
 replace i1 := i1.mv (jz 1 (by decide))
 replace i3 := i3.mv (jz 3 (by decide))
 replace i62 := i62.mv (jz 62 (by decide))
 replace dz := dz'.trans dz
 clear jz dz' sz i66 i69
 have sz := sz'
 clear sz'
 obtain ⟨P15_10, eP15_10⟩ : ∃ x, (Lv_neq_0 && (!H114)) = x := ⟨_, rfl⟩
 rw [eP15_10] at i70
 refine st_val 71 rfl sz (by decide) true (wanted_none rfl) (.bool (P15_9 || P15_10)) (fun h => ex_or rfl i62 i70 rfl) ?_
 intro A sz' dz' i71 jz
 replace i1 := i1.mv (jz 1 (by decide))
 replace i3 := i3.mv (jz 3 (by decide))
 replace dz := dz'.trans dz
 clear jz dz' sz i62 i70
 have sz := sz'
 clear sz'
 obtain ⟨P15_11, eP15_11⟩ : ∃ x, (P15_9 || P15_10) = x := ⟨_, rfl⟩
 rw [eP15_11] at i71
 refine st_val 72 rfl sz (by decide) true (wanted_none rfl) (.bool P15_11) (fun h => ex_move rfl (i71.get rfl)) ?_
 intro A sz' dz' i72 jz
 replace i1 := i1.mv (jz 1 (by decide))
 replace i3 := i3.mv (jz 3 (by decide))
 replace dz := dz'.trans dz
 clear jz dz' sz i71
 have sz := sz'
 clear sz'
 refine st_val 73 rfl sz (by decide) (true && (P15_11 == false)) (wanted_some rfl rfl (by rw [sz]; decide) i72) (.pointer (some ⟨H, 7, none⟩)) (fun h => ex_fa7 rfl (i1.get rfl)) ?_
 intro A sz' dz' i73 jz
 replace i1 := i1.mv (jz 1 (by decide))
 replace i3 := i3.mv (jz 3 (by decide))
 replace i72 := i72.mv (jz 72 (by decide))
 replace dz := dz'.trans dz
 clear jz dz' sz
 have sz := sz'
 clear sz'
 refine st_val 74 rfl sz (by decide) (true && (P15_11 == false)) (wanted_some rfl rfl (by rw [sz]; decide) i72) (.int .u64 (a : Nat)) (fun h => ex_load Tryz.isAgg42 rfl (i73.get h) c7) ?_
 intro A sz' dz' i74 jz
 replace i1 := i1.mv (jz 1 (by decide))
 replace i3 := i3.mv (jz 3 (by decide))
 replace i72 := i72.mv (jz 72 (by decide))
 replace dz := dz'.trans dz
 clear jz dz' sz i73
 have sz := sz'
 clear sz'
 refine st_val 75 rfl sz (by decide) (true && (P15_11 == false)) (wanted_some rfl rfl (by rw [sz]; decide) i72) (.bool La_neq_0) (fun h => ex_bin rfl (i74.get h) rfl (bin_ne_int hLa_neq_0) eqg_int) ?_
 intro A sz' dz' i75 jz
 replace i1 := i1.mv (jz 1 (by decide))
 replace i3 := i3.mv (jz 3 (by decide))
 replace i72 := i72.mv (jz 72 (by decide))
 replace dz := dz'.trans dz
 clear jz dz' sz i74
 have sz := sz'
 clear sz'
 refine st_val 76 rfl sz (by decide) (true && (P15_11 == false)) (wanted_some rfl rfl (by rw [sz]; decide) i72) (.bool La_neq_0) (fun h => ex_move rfl (i75.get h)) ?_
 intro A sz' dz' i76 jz
 replace i1 := i1.mv (jz 1 (by decide))
 replace i3 := i3.mv (jz 3 (by decide))
 replace i72 := i72.mv (jz 72 (by decide))
 replace dz := dz'.trans dz
 clear jz dz' sz i75
 have sz := sz'
 clear sz'
 refine st_val 77 rfl sz (by decide) ((true && (P15_11 == false)) && (La_neq_0 == true)) (wanted_some rfl rfl (by rw [sz]; decide) i76) (.string z) (fun h => ex_move rfl (i3.get rfl)) ?_
 intro A sz' dz' i77 jz
 replace i1 := i1.mv (jz 1 (by decide))
 replace i3 := i3.mv (jz 3 (by decide))
 replace i72 := i72.mv (jz 72 (by decide))
 replace i76 := i76.mv (jz 76 (by decide))
 replace dz := dz'.trans dz
 clear jz dz' sz
 have sz := sz'
 clear sz'
 refine st_call 78 rfl sz (by decide) ((true && (P15_11 == false)) && (La_neq_0 == true)) (wanted_some rfl rfl (by rw [sz]; decide) i76) (.bool H97) _ _ (fun h => ex_has rfl (i77.get h) rfl rfl) CH97 ?_
 intro A sz' dz' i78 jz
 replace i1 := i1.mv (jz 1 (by decide))
 replace i3 := i3.mv (jz 3 (by decide))
 replace i72 := i72.mv (jz 72 (by decide))
 replace i76 := i76.mv (jz 76 (by decide))
 replace dz := dz'.trans dz
 clear jz dz' sz i77
 have sz := sz'
 clear sz'
 refine st_val 79 rfl sz (by decide) ((true && (P15_11 == false)) && (La_neq_0 == true)) (wanted_some rfl rfl (by rw [sz]; decide) i76) (.bool (!H97)) (fun h => ex_not rfl (i78.get h)) ?_
 intro A sz' dz' i79 jz
 replace i1 := i1.mv (jz 1 (by decide))
 replace i3 := i3.mv (jz 3 (by decide))
 replace i72 := i72.mv (jz 72 (by decide))
 replace i76 := i76.mv (jz 76 (by decide))
 replace dz := dz'.trans dz
 clear jz dz' sz i78
 have sz := sz'
 clear sz'
 refine st_val 80 rfl sz (by decide) (true && (P15_11 == false)) (wanted_some rfl rfl (by rw [sz]; decide) i72) (.bool (La_neq_0 && (!H97))) (fun h => ex_and rfl i76 i79 h) ?_
 intro A sz' dz' i80 jz
 replace i1 := i1.mv (jz 1 (by decide))
 replace i3 := i3.mv (jz 3 (by decide))
 replace i72 := i72.mv (jz 72 (by decide))
 replace dz := dz'.trans dz
 clear jz dz' sz i76 i79
 have sz := sz'
 clear sz'
 obtain ⟨P15_12, eP15_12⟩ : ∃ x, (La_neq_0 && (!H97)) = x := ⟨_, rfl⟩
 rw [eP15_12] at i80
 refine st_val 81 rfl sz (by decide) true (wanted_none rfl) (.bool (P15_11 || P15_12)) (fun h => ex_or rfl i72 i80 rfl) ?_
 intro A sz' dz' i81 jz
 replace i1 := i1.mv (jz 1 (by decide))
 replace i3 := i3.mv (jz 3 (by decide))
 replace dz := dz'.trans dz
 clear jz dz' sz i72 i80
 have sz := sz'
 clear sz'
 obtain ⟨P15_13, eP15_13⟩ : ∃ x, (P15_11 || P15_12) = x := ⟨_, rfl⟩
 rw [eP15_13] at i81
 refine st_val 82 rfl sz (by decide) true (wanted_none rfl) (.bool P15_13) (fun h => ex_move rfl (i81.get rfl)) ?_
 intro A sz' dz' i82 jz
 replace i1 := i1.mv (jz 1 (by decide))
 replace i3 := i3.mv (jz 3 (by decide))
 replace dz := dz'.trans dz
 clear jz dz' sz i81
 have sz := sz'
 clear sz'
 refine st_val 83 rfl sz (by decide) (true && (P15_13 == false)) (wanted_some rfl rfl (by rw [sz]; decide) i82) (.pointer (some ⟨H, 8, none⟩)) (fun h => ex_fa8 rfl (i1.get rfl)) ?_
 intro A sz' dz' i83 jz
 replace i1 := i1.mv (jz 1 (by decide))
 replace i3 := i3.mv (jz 3 (by decide))
 replace i82 := i82.mv (jz 82 (by decide))
 replace dz := dz'.trans dz
 clear jz dz' sz
 have sz := sz'
 clear sz'
 refine st_val 84 rfl sz (by decide) (true && (P15_13 == false)) (wanted_some rfl rfl (by rw [sz]; decide) i82) (.string t) (fun h => ex_load Tryz.isAgg9 rfl (i83.get h) c8) ?_
 intro A sz' dz' i84 jz
 replace i1 := i1.mv (jz 1 (by decide))
 replace i3 := i3.mv (jz 3 (by decide))
 replace i82 := i82.mv (jz 82 (by decide))
 replace dz := dz'.trans dz
 clear jz dz' sz i83
 have sz := sz'
 clear sz'
 refine st_val 85 rfl sz (by decide) (true && (P15_13 == false)) (wanted_some rfl rfl (by rw [sz]; decide) i82) (.bool Lxt) (fun h => ex_bin rfl (i84.get h) rfl (bin_ne_str hLxt) eqg_str) ?_
 intro A sz' dz' i85 jz
 replace i1 := i1.mv (jz 1 (by decide))
 replace i3 := i3.mv (jz 3 (by decide))
 replace i82 := i82.mv (jz 82 (by decide))
 replace dz := dz'.trans dz
 clear jz dz' sz i84
 have sz := sz'
 clear sz'
 refine st_val 86 rfl sz (by decide) (true && (P15_13 == false)) (wanted_some rfl rfl (by rw [sz]; decide) i82) (.bool Lxt) (fun h => ex_move rfl (i85.get h)) ?_
 intro A sz' dz' i86 jz
 replace i1 := i1.mv (jz 1 (by decide))
 replace i3 := i3.mv (jz 3 (by decide))
 replace i82 := i82.mv (jz 82 (by decide))
 replace dz := dz'.trans dz
 clear jz dz' sz i85
 have sz := sz'
 clear sz'
 refine st_val 87 rfl sz (by decide) ((true && (P15_13 == false)) && (Lxt == true)) (wanted_some rfl rfl (by rw [sz]; decide) i86) (.string z) (fun h => ex_move rfl (i3.get rfl)) ?_
 intro A sz' dz' i87 jz
 replace i1 := i1.mv (jz 1 (by decide))
 replace i3 := i3.mv (jz 3 (by decide))
 replace i82 := i82.mv (jz 82 (by decide))
 replace i86 := i86.mv (jz 86 (by decide))
 replace dz := dz'.trans dz
 clear jz dz' sz
 have sz := sz'
 clear sz'
 refine st_call 88 rfl sz (by decide) ((true && (P15_13 == false)) && (Lxt == true)) (wanted_some rfl rfl (by rw [sz]; decide) i86) (.bool H116) _ _ (fun h => ex_has rfl (i87.get h) rfl rfl) CH116 ?_
 intro A sz' dz' i88 jz
 replace i1 := i1.mv (jz 1 (by decide))
 replace i3 := i3.mv (jz 3 (by decide))
 replace i82 := i82.mv (jz 82 (by decide))
 replace i86 := i86.mv (jz 86 (by decide))
 replace dz := dz'.trans dz
 clear jz dz' sz i87
 have sz := sz'
 clear sz'
 refine st_val 89 rfl sz (by decide) ((true && (P15_13 == false)) && (Lxt == true)) (wanted_some rfl rfl (by rw [sz]; decide) i86) (.bool (!H116)) (fun h => ex_not rfl (i88.get h)) ?_
 intro A sz' dz' i89 jz
 replace i1 := i1.mv (jz 1 (by decide))
 replace i3 := i3.mv (jz 3 (by decide))
 replace i82 := i82.mv (jz 82 (by decide))
 replace i86 := i86.mv (jz 86 (by decide))
 replace dz := dz'.trans dz
 clear jz dz' sz i88
 have sz := sz'
 clear sz'
 refine st_val 90 rfl sz (by decide) (true && (P15_13 == false)) (wanted_some rfl rfl (by rw [sz]; decide) i82) (.bool (Lxt && (!H116))) (fun h => ex_and rfl i86 i89 h) ?_
 intro A sz' dz' i90 jz
 replace i1 := i1.mv (jz 1 (by decide))
 replace i3 := i3.mv (jz 3 (by decide))
 replace i82 := i82.mv (jz 82 (by decide))
 replace dz := dz'.trans dz
 clear jz dz' sz i86 i89
 have sz := sz'
 clear sz'
 obtain ⟨P15_14, eP15_14⟩ : ∃ x, (Lxt && (!H116)) = x := ⟨_, rfl⟩
 rw [eP15_14] at i90
 refine st_val 91 rfl sz (by decide) true (wanted_none rfl) (.bool (P15_13 || P15_14)) (fun h => ex_or rfl i82 i90 rfl) ?_
 intro A sz' dz' i91 jz
 replace i1 := i1.mv (jz 1 (by decide))
 replace i3 := i3.mv (jz 3 (by decide))
 replace dz := dz'.trans dz
 clear jz dz' sz i82 i90
 have sz := sz'
 clear sz'
 obtain ⟨P15_15, eP15_15⟩ : ∃ x, (P15_13 || P15_14) = x := ⟨_, rfl⟩
 rw [eP15_15] at i91

 refine wpList_nil ?_
 go_wp2_with fail
 have BB := Lib.hid (B0.out.trans (B1.out.mono B0.out.size))
 have HF : D.fbad k s u p m v a g t = P15_15 := by
  unfold D.fbad D.hk_
  rw [hzk, hH117, hH109, hH112, hH115, hH103, hH114, hH97, hH116, hLu_neq_0, hLm_neq_0, hLp_neq_0, hLs_neq_0, hLv_neq_0, hLa_neq_0, hLxt]
  rw [eP15_1, eP15_2, eP15_3, eP15_4, eP15_5, eP15_6, eP15_7, eP15_8, eP15_9, eP15_10, eP15_11, eP15_12, eP15_13, eP15_14, eP15_15]
 refine wp_cond_split (i91.get rfl) (fun h4 => ?_) (fun h4 => ?_)
 ·go_wp2_with fail
  refine bodyPost_ret (v := .int .i64 3) (by simp [results, Tryz.results46, go_sem, sz]) rfl ⟨?_, BB.out⟩
  rw [HC.out, HF, h4]; rfl
 ·go_upto_region 6 with fail
  refine wp_region_lit ?_
  refine st_val 92 rfl sz (by decide) true (wanted_none rfl) (.pointer (some ⟨H, 2, none⟩)) (fun h => ex_fa2 rfl (i1.get rfl)) ?_
  intro A sz' dz' i92 jz
  replace i1 := i1.mv (jz 1 (by decide))
  replace i3 := i3.mv (jz 3 (by decide))
  replace dz := dz'.trans dz
  clear jz dz' sz
  have sz := sz'
  clear sz'
  refine st_val 93 rfl sz (by decide) true (wanted_none rfl) (.int .i64 (u : Nat)) (fun h => ex_load Tryz.isAgg3 rfl (i92.get rfl) c2) ?_
  intro A sz' dz' i93 jz
  replace i1 := i1.mv (jz 1 (by decide))
  replace i3 := i3.mv (jz 3 (by decide))
  replace dz := dz'.trans dz
  clear jz dz' sz i92
  have sz := sz'
  clear sz'
  refine st_val 94 rfl sz (by decide) true (wanted_none rfl) (.bool Lu_gtr_15) (fun h => ex_bin rfl (i93.get rfl) rfl (bin_gtr hLu_gtr_15) eqg_int) ?_
  intro A sz' dz' i94 jz
  replace i1 := i1.mv (jz 1 (by decide))
  replace i3 := i3.mv (jz 3 (by decide))
  replace dz := dz'.trans dz
  clear jz dz' sz i93
  have sz := sz'
  clear sz'
  refine st_val 95 rfl sz (by decide) true (wanted_none rfl) (.bool Lu_gtr_15) (fun h => ex_move rfl (i94.get rfl)) ?_
  intro A sz' dz' i95 jz
  replace i1 := i1.mv (jz 1 (by decide))
  replace i3 := i3.mv (jz 3 (by decide))
  replace dz := dz'.trans dz
  clear jz dz' sz i94
  have sz := sz'
  clear sz'
  refine st_val 96 rfl sz (by decide) (true && (Lu_gtr_15 == false)) (wanted_some rfl rfl (by rw [sz]; decide) i95) (.pointer (some ⟨H, 4, none⟩)) (fun h => ex_fa4 rfl (i1.get rfl)) ?_
  intro A sz' dz' i96 jz
  replace i1 := i1.mv (jz 1 (by decide))
  replace i3 := i3.mv (jz 3 (by decide))
  replace i95 := i95.mv (jz 95 (by decide))
  replace dz := dz'.trans dz
  clear jz dz' sz
  have sz := sz'
  clear sz'
  refine st_val 97 rfl sz (by decide) (true && (Lu_gtr_15 == false)) (wanted_some rfl rfl (by rw [sz]; decide) i95) (.int .i64 (m : Nat)) (fun h => ex_load Tryz.isAgg3 rfl (i96.get h) c4) ?_
  intro A sz' dz' i97 jz
  replace i1 := i1.mv (jz 1 (by decide))
  replace i3 := i3.mv (jz 3 (by decide))
  replace i95 := i95.mv (jz 95 (by decide))
  replace dz := dz'.trans dz
  clear jz dz' sz i96
  have sz := sz'
  clear sz'
  refine st_val 98 rfl sz (by decide) (true && (Lu_gtr_15 == false)) (wanted_some rfl rfl (by rw [sz]; decide) i95) (.bool Lm_gtr_63) (fun h => ex_bin rfl (i97.get h) rfl (bin_gtr hLm_gtr_63) eqg_int) ?_
  intro A sz' dz' i98 jz
  replace i1 := i1.mv (jz 1 (by decide))
  replace i3 := i3.mv (jz 3 (by decide))
  replace i95 := i95.mv (jz 95 (by decide))
  replace dz := dz'.trans dz
  clear jz dz' sz i97
  have sz := sz'
  clear sz'
  refine st_val 99 rfl sz (by decide) true (wanted_none rfl) (.bool (Lu_gtr_15 || Lm_gtr_63)) (fun h => ex_or rfl i95 i98 rfl) ?_
  intro A sz' dz' i99 jz
  replace i1 := i1.mv (jz 1 (by decide))
  replace i3 := i3.mv (jz 3 (by decide))
  replace dz := dz'.trans dz
  clear jz dz' sz i95 i98
  have sz := sz'
  clear sz'
  obtain ⟨P92_1, eP92_1⟩ : ∃ x, (Lu_gtr_15 || Lm_gtr_63) = x := ⟨_, rfl⟩
  rw [eP92_1] at i99
  refine st_val 100 rfl sz (by decide) true (wanted_none rfl) (.bool P92_1) (fun h => ex_move rfl (i99.get rfl)) ?_
  intro A sz' dz' i100 jz
  replace i1 := i1.mv (jz 1 (by decide))
  replace i3 := i3.mv (jz 3 (by decide))
  replace dz := dz'.trans dz
  clear jz dz' sz i99
  have sz := sz'
  clear sz'
  refine st_val 101 rfl sz (by decide) (true && (P92_1 == false)) (wanted_some rfl rfl (by rw [sz]; decide) i100) (.pointer (some ⟨H, 0, none⟩)) (fun h => ex_fa0 rfl (i1.get rfl)) ?_
  intro A sz' dz' i101 jz
  replace i1 := i1.mv (jz 1 (by decide))
  replace i3 := i3.mv (jz 3 (by decide))
  replace i100 := i100.mv (jz 100 (by decide))
  replace dz := dz'.trans dz
  clear jz dz' sz
  have sz := sz'
  clear sz'
  refine st_val 102 rfl sz (by decide) (true && (P92_1 == false)) (wanted_some rfl rfl (by rw [sz]; decide) i100) (.int .i64 (k : Nat)) (fun h => ex_load Tryz.isAgg3 rfl (i101.get h) c0) ?_
  intro A sz' dz' i102 jz
  replace i1 := i1.mv (jz 1 (by decide))
  replace i3 := i3.mv (jz 3 (by decide))
  replace i100 := i100.mv (jz 100 (by decide))
  replace dz := dz'.trans dz
  clear jz dz' sz i101
  have sz := sz'
  clear sz'
  refine st_val 103 rfl sz (by decide) (true && (P92_1 == false)) (wanted_some rfl rfl (by rw [sz]; decide) i100) (.bool Lk_eql_2) (fun h => ex_bin rfl (i102.get h) rfl (bin_eql hLk_eql_2) eqg_int) ?_
  intro A sz' dz' i103 jz
  replace i1 := i1.mv (jz 1 (by decide))
  replace i3 := i3.mv (jz 3 (by decide))
  replace i100 := i100.mv (jz 100 (by decide))
  replace dz := dz'.trans dz
  clear jz dz' sz i102
  have sz := sz'
  clear sz'
  refine st_val 104 rfl sz (by decide) (true && (P92_1 == false)) (wanted_some rfl rfl (by rw [sz]; decide) i100) (.bool Lk_eql_2) (fun h => ex_move rfl (i103.get h)) ?_
  intro A sz' dz' i104 jz
  replace i1 := i1.mv (jz 1 (by decide))
  replace i3 := i3.mv (jz 3 (by decide))
  replace i100 := i100.mv (jz 100 (by decide))
  replace dz := dz'.trans dz
  clear jz dz' sz i103
  have sz := sz'
  clear sz'
  refine st_val 105 rfl sz (by decide) ((true && (P92_1 == false)) && (Lk_eql_2 == true)) (wanted_some rfl rfl (by rw [sz]; decide) i104) (.pointer (some ⟨H, 4, none⟩)) (fun h => ex_fa4 rfl (i1.get rfl)) ?_
  intro A sz' dz' i105 jz
  replace i1 := i1.mv (jz 1 (by decide))
  replace i3 := i3.mv (jz 3 (by decide))
  replace i100 := i100.mv (jz 100 (by decide))
  replace i104 := i104.mv (jz 104 (by decide))
  replace dz := dz'.trans dz
  clear jz dz' sz
  have sz := sz'
  clear sz'
  refine st_val 106 rfl sz (by decide) ((true && (P92_1 == false)) && (Lk_eql_2 == true)) (wanted_some rfl rfl (by rw [sz]; decide) i104) (.int .i64 (m : Nat)) (fun h => ex_load Tryz.isAgg3 rfl (i105.get h) c4) ?_
  intro A sz' dz' i106 jz
  replace i1 := i1.mv (jz 1 (by decide))
  replace i3 := i3.mv (jz 3 (by decide))
  replace i100 := i100.mv (jz 100 (by decide))
  replace i104 := i104.mv (jz 104 (by decide))
  replace dz := dz'.trans dz
  clear jz dz' sz i105
  have sz := sz'
  clear sz'
  refine st_val 107 rfl sz (by decide) ((true && (P92_1 == false)) && (Lk_eql_2 == true)) (wanted_some rfl rfl (by rw [sz]; decide) i104) (.bool Lm_eql_0) (fun h => ex_bin rfl (i106.get h) rfl (bin_eql hLm_eql_0) eqg_int) ?_
  intro A sz' dz' i107 jz
  replace i1 := i1.mv (jz 1 (by decide))
  replace i3 := i3.mv (jz 3 (by decide))
  replace i100 := i100.mv (jz 100 (by decide))
  replace i104 := i104.mv (jz 104 (by decide))
  replace dz := dz'.trans dz
  clear jz dz' sz i106
  have sz := sz'
  clear sz'
  refine st_val 108 rfl sz (by decide) (true && (P92_1 == false)) (wanted_some rfl rfl (by rw [sz]; decide) i100) (.bool (Lk_eql_2 && Lm_eql_0)) (fun h => ex_and rfl i104 i107 h) ?_
  intro A sz' dz' i108 jz
  replace i1 := i1.mv (jz 1 (by decide))
  replace i3 := i3.mv (jz 3 (by decide))
  replace i100 := i100.mv (jz 100 (by decide))
  replace dz := dz'.trans dz
  clear jz dz' sz i104 i107
  have sz := sz'
  clear sz'
  obtain ⟨P92_2, eP92_2⟩ : ∃ x, (Lk_eql_2 && Lm_eql_0) = x := ⟨_, rfl⟩
  rw [eP92_2] at i108
  refine st_val 109 rfl sz (by decide) true (wanted_none rfl) (.bool (P92_1 || P92_2)) (fun h => ex_or rfl i100 i108 rfl) ?_
  intro A sz' dz' i109 jz
  replace i1 := i1.mv (jz 1 (by decide))
  replace i3 := i3.mv (jz 3 (by decide))
  replace dz := dz'.trans dz
  clear jz dz' sz i100 i108
  have sz := sz'
  clear sz'
  obtain ⟨P92_3, eP92_3⟩ : ∃ x, (P92_1 || P92_2) = x := ⟨_, rfl⟩
  rw [eP92_3] at i109
  refine st_val 110 rfl sz (by decide) true (wanted_none rfl) (.bool P92_3) (fun h => ex_move rfl (i109.get rfl)) ?_
  intro A sz' dz' i110 jz
  replace i1 := i1.mv (jz 1 (by decide))
  replace i3 := i3.mv (jz 3 (by decide))
  replace dz := dz'.trans dz
  clear jz dz' sz i109
  have sz := sz'
  clear sz'
  refine st_val 111 rfl sz (by decide) (true && (P92_3 == false)) (wanted_some rfl rfl (by rw [sz]; decide) i110) (.pointer (some ⟨H, 3, none⟩)) (fun h => ex_fa3 rfl (i1.get rfl)) ?_
  intro A sz' dz' i111 jz
  replace i1 := i1.mv (jz 1 (by decide))
  replace i3 := i3.mv (jz 3 (by decide))
  replace i110 := i110.mv (jz 110 (by decide))
  replace dz := dz'.trans dz
  clear jz dz' sz
  have sz := sz'
  clear sz'
  refine st_val 112 rfl sz (by decide) (true && (P92_3 == false)) (wanted_some rfl rfl (by rw [sz]; decide) i110) (.int .i64 (p : Nat)) (fun h => ex_load Tryz.isAgg3 rfl (i111.get h) c3) ?_
  intro A sz' dz' i112 jz
  replace i1 := i1.mv (jz 1 (by decide))
  replace i3 := i3.mv (jz 3 (by decide))
  replace i110 := i110.mv (jz 110 (by decide))
  replace dz := dz'.trans dz
  clear jz dz' sz i111
  have sz := sz'
  clear sz'
  refine st_val 113 rfl sz (by decide) (true && (P92_3 == false)) (wanted_some rfl rfl (by rw [sz]; decide) i110) (.bool Lp_gtr_3) (fun h => ex_bin rfl (i112.get h) rfl (bin_gtr hLp_gtr_3) eqg_int) ?_
  intro A sz' dz' i113 jz
  replace i1 := i1.mv (jz 1 (by decide))
  replace i3 := i3.mv (jz 3 (by decide))
  replace i110 := i110.mv (jz 110 (by decide))
  replace dz := dz'.trans dz
  clear jz dz' sz i112
  have sz := sz'
  clear sz'
  refine st_val 114 rfl sz (by decide) true (wanted_none rfl) (.bool (P92_3 || Lp_gtr_3)) (fun h => ex_or rfl i110 i113 rfl) ?_
  intro A sz' dz' i114 jz
  replace i1 := i1.mv (jz 1 (by decide))
  replace i3 := i3.mv (jz 3 (by decide))
  replace dz := dz'.trans dz
  clear jz dz' sz i110 i113
  have sz := sz'
  clear sz'
  obtain ⟨P92_4, eP92_4⟩ : ∃ x, (P92_3 || Lp_gtr_3) = x := ⟨_, rfl⟩
  rw [eP92_4] at i114
  refine st_val 115 rfl sz (by decide) true (wanted_none rfl) (.bool P92_4) (fun h => ex_move rfl (i114.get rfl)) ?_
  intro A sz' dz' i115 jz
  replace i1 := i1.mv (jz 1 (by decide))
  replace i3 := i3.mv (jz 3 (by decide))
  replace dz := dz'.trans dz
  clear jz dz' sz i114
  have sz := sz'
  clear sz'
  refine st_val 116 rfl sz (by decide) (true && (P92_4 == false)) (wanted_some rfl rfl (by rw [sz]; decide) i115) (.pointer (some ⟨H, 0, none⟩)) (fun h => ex_fa0 rfl (i1.get rfl)) ?_
  intro A sz' dz' i116 jz
  replace i1 := i1.mv (jz 1 (by decide))
  replace i3 := i3.mv (jz 3 (by decide))
  replace i115 := i115.mv (jz 115 (by decide))
  replace dz := dz'.trans dz
  clear jz dz' sz
  have sz := sz'
  clear sz'
  refine st_val 117 rfl sz (by decide) (true && (P92_4 == false)) (wanted_some rfl rfl (by rw [sz]; decide) i115) (.int .i64 (k : Nat)) (fun h => ex_load Tryz.isAgg3 rfl (i116.get h) c0) ?_
  intro A sz' dz' i117 jz
  replace i1 := i1.mv (jz 1 (by decide))
  replace i3 := i3.mv (jz 3 (by decide))
  replace i115 := i115.mv (jz 115 (by decide))
  replace dz := dz'.trans dz
  clear jz dz' sz i116
  have sz := sz'
  clear sz'
  refine st_val 118 rfl sz (by decide) (true && (P92_4 == false)) (wanted_some rfl rfl (by rw [sz]; decide) i115) (.bool Lk_eql_4) (fun h => ex_bin rfl (i117.get h) rfl (bin_eql hLk_eql_4) eqg_int) ?_
  intro A sz' dz' i118 jz
  replace i1 := i1.mv (jz 1 (by decide))
  replace i3 := i3.mv (jz 3 (by decide))
  replace i115 := i115.mv (jz 115 (by decide))
  replace dz := dz'.trans dz
  clear jz dz' sz i117
  have sz := sz'
  clear sz'
  refine st_val 119 rfl sz (by decide) (true && (P92_4 == false)) (wanted_some rfl rfl (by rw [sz]; decide) i115) (.bool Lk_eql_4) (fun h => ex_move rfl (i118.get h)) ?_
  intro A sz' dz' i119 jz
  replace i1 := i1.mv (jz 1 (by decide))
  replace i3 := i3.mv (jz 3 (by decide))
  replace i115 := i115.mv (jz 115 (by decide))
  replace dz := dz'.trans dz
  clear jz dz' sz i118
  have sz := sz'
  clear sz'
  refine st_val 120 rfl sz (by decide) ((true && (P92_4 == false)) && (Lk_eql_4 == true)) (wanted_some rfl rfl (by rw [sz]; decide) i119) (.pointer (some ⟨H, 1, none⟩)) (fun h => ex_fa1 rfl (i1.get rfl)) ?_
  intro A sz' dz' i120 jz
  replace i1 := i1.mv (jz 1 (by decide))
  replace i3 := i3.mv (jz 3 (by decide))
  replace i115 := i115.mv (jz 115 (by decide))
  replace i119 := i119.mv (jz 119 (by decide))
  replace dz := dz'.trans dz
  clear jz dz' sz
  have sz := sz'
  clear sz'
  refine st_val 121 rfl sz (by decide) ((true && (P92_4 == false)) && (Lk_eql_4 == true)) (wanted_some rfl rfl (by rw [sz]; decide) i119) (.int .i64 (s : Nat)) (fun h => ex_load Tryz.isAgg3 rfl (i120.get h) c1) ?_
  intro A sz' dz' i121 jz
  replace i1 := i1.mv (jz 1 (by decide))
  replace i3 := i3.mv (jz 3 (by decide))
  replace i115 := i115.mv (jz 115 (by decide))
  replace i119 := i119.mv (jz 119 (by decide))
  replace dz := dz'.trans dz
  clear jz dz' sz i120
  have sz := sz'
  clear sz'
  refine st_val 122 rfl sz (by decide) ((true && (P92_4 == false)) && (Lk_eql_4 == true)) (wanted_some rfl rfl (by rw [sz]; decide) i119) (.bool Ls_gtr_1) (fun h => ex_bin rfl (i121.get h) rfl (bin_gtr hLs_gtr_1) eqg_int) ?_
  intro A sz' dz' i122 jz
  replace i1 := i1.mv (jz 1 (by decide))
  replace i3 := i3.mv (jz 3 (by decide))
  replace i115 := i115.mv (jz 115 (by decide))
  replace i119 := i119.mv (jz 119 (by decide))
  replace dz := dz'.trans dz
  clear jz dz' sz i121
  have sz := sz'
  clear sz'
  refine st_val 123 rfl sz (by decide) (true && (P92_4 == false)) (wanted_some rfl rfl (by rw [sz]; decide) i115) (.bool (Lk_eql_4 && Ls_gtr_1)) (fun h => ex_and rfl i119 i122 h) ?_
  intro A sz' dz' i123 jz
  replace i1 := i1.mv (jz 1 (by decide))
  replace i3 := i3.mv (jz 3 (by decide))
  replace i115 := i115.mv (jz 115 (by decide))
  replace dz := dz'.trans dz
  clear jz dz' sz i119 i122
  have sz := sz'
  clear sz'
  obtain ⟨P92_5, eP92_5⟩ : ∃ x, (Lk_eql_4 && Ls_gtr_1) = x := ⟨_, rfl⟩
  rw [eP92_5] at i123
  refine st_val 124 rfl sz (by decide) true (wanted_none rfl) (.bool (P92_4 || P92_5)) (fun h => ex_or rfl i115 i123 rfl) ?_
  intro A sz' dz' i124 jz
  replace i1 := i1.mv (jz 1 (by decide))
  replace i3 := i3.mv (jz 3 (by decide))
  replace dz := dz'.trans dz
  clear jz dz' sz i115 i123
  have sz := sz'
  clear sz'
  obtain ⟨P92_6, eP92_6⟩ : ∃ x, (P92_4 || P92_5) = x := ⟨_, rfl⟩
  rw [eP92_6] at i124
  refine st_val 125 rfl sz (by decide) true (wanted_none rfl) (.bool P92_6) (fun h => ex_move rfl (i124.get rfl)) ?_
  intro A sz' dz' i125 jz
  replace i1 := i1.mv (jz 1 (by decide))
  replace i3 := i3.mv (jz 3 (by decide))
  replace dz := dz'.trans dz
  clear jz dz' sz i124
  have sz := sz'
  clear sz'
  refine st_val 126 rfl sz (by decide) (true && (P92_6 == false)) (wanted_some rfl rfl (by rw [sz]; decide) i125) (.pointer (some ⟨H, 0, none⟩)) (fun h => ex_fa0 rfl (i1.get rfl)) ?_
  intro A sz' dz' i126 jz
  replace i1 := i1.mv (jz 1 (by decide))
  replace i3 := i3.mv (jz 3 (by decide))
  replace i125 := i125.mv (jz 125 (by decide))
  replace dz := dz'.trans dz
  clear jz dz' sz
  have sz := sz'
  clear sz'
  refine st_val 127 rfl sz (by decide) (true && (P92_6 == false)) (wanted_some rfl rfl (by rw [sz]; decide) i125) (.int .i64 (k : Nat)) (fun h => ex_load Tryz.isAgg3 rfl (i126.get h) c0) ?_
  intro A sz' dz' i127 jz
  replace i1 := i1.mv (jz 1 (by decide))
  replace i3 := i3.mv (jz 3 (by decide))
  replace i125 := i125.mv (jz 125 (by decide))
  replace dz := dz'.trans dz
  clear jz dz' sz i126
  have sz := sz'
  clear sz'
  refine st_val 128 rfl sz (by decide) (true && (P92_6 == false)) (wanted_some rfl rfl (by rw [sz]; decide) i125) (.bool Lk_eql_6) (fun h => ex_bin rfl (i127.get h) rfl (bin_eql hLk_eql_6) eqg_int) ?_
  intro A sz' dz' i128 jz
  replace i1 := i1.mv (jz 1 (by decide))
  replace i3 := i3.mv (jz 3 (by decide))
  replace i125 := i125.mv (jz 125 (by decide))
  replace dz := dz'.trans dz
  clear jz dz' sz i127
  have sz := sz'
  clear sz'
  refine st_val 129 rfl sz (by decide) (true && (P92_6 == false)) (wanted_some rfl rfl (by rw [sz]; decide) i125) (.bool Lk_eql_6) (fun h => ex_move rfl (i128.get h)) ?_
  intro A sz' dz' i129 jz
  replace i1 := i1.mv (jz 1 (by decide))
  replace i3 := i3.mv (jz 3 (by decide))
  replace i125 := i125.mv (jz 125 (by decide))
  replace dz := dz'.trans dz
  clear jz dz' sz i128
  have sz := sz'
  clear sz'
  refine st_val 130 rfl sz (by decide) ((true && (P92_6 == false)) && (Lk_eql_6 == true)) (wanted_some rfl rfl (by rw [sz]; decide) i129) (.pointer (some ⟨H, 1, none⟩)) (fun h => ex_fa1 rfl (i1.get rfl)) ?_
  intro A sz' dz' i130 jz
  replace i1 := i1.mv (jz 1 (by decide))
  replace i3 := i3.mv (jz 3 (by decide))
  replace i125 := i125.mv (jz 125 (by decide))
  replace i129 := i129.mv (jz 129 (by decide))
  replace dz := dz'.trans dz
  clear jz dz' sz
  have sz := sz'
  clear sz'
  refine st_val 131 rfl sz (by decide) ((true && (P92_6 == false)) && (Lk_eql_6 == true)) (wanted_some rfl rfl (by rw [sz]; decide) i129) (.int .i64 (s : Nat)) (fun h => ex_load Tryz.isAgg3 rfl (i130.get h) c1) ?_
  intro A sz' dz' i131 jz
  replace i1 := i1.mv (jz 1 (by decide))
  replace i3 := i3.mv (jz 3 (by decide))
  replace i125 := i125.mv (jz 125 (by decide))
  replace i129 := i129.mv (jz 129 (by decide))
  replace dz := dz'.trans dz
  clear jz dz' sz i130
  have sz := sz'
  clear sz'
  refine st_val 132 rfl sz (by decide) ((true && (P92_6 == false)) && (Lk_eql_6 == true)) (wanted_some rfl rfl (by rw [sz]; decide) i129) (.bool Ls_lss_1) (fun h => ex_bin rfl (i131.get h) rfl (bin_lss hLs_lss_1) eqg_int) ?_
  intro A sz' dz' i132 jz
  replace i1 := i1.mv (jz 1 (by decide))
  replace i3 := i3.mv (jz 3 (by decide))
  replace i125 := i125.mv (jz 125 (by decide))
  replace i129 := i129.mv (jz 129 (by decide))
  replace dz := dz'.trans dz
  clear jz dz' sz i131
  have sz := sz'
  clear sz'
  refine st_val 133 rfl sz (by decide) ((true && (P92_6 == false)) && (Lk_eql_6 == true)) (wanted_some rfl rfl (by rw [sz]; decide) i129) (.bool Ls_lss_1) (fun h => ex_move rfl (i132.get h)) ?_
  intro A sz' dz' i133 jz
  replace i1 := i1.mv (jz 1 (by decide))
  replace i3 := i3.mv (jz 3 (by decide))
  replace i125 := i125.mv (jz 125 (by decide))
  replace i129 := i129.mv (jz 129 (by decide))
  replace dz := dz'.trans dz
  clear jz dz' sz i132
  have sz := sz'
  clear sz'
  refine st_val 134 rfl sz (by decide) (((true && (P92_6 == false)) && (Lk_eql_6 == true)) && (Ls_lss_1 == false)) (wanted_some rfl rfl (by rw [sz]; decide) i133) (.pointer (some ⟨H, 1, none⟩)) (fun h => ex_fa1 rfl (i1.get rfl)) ?_
  intro A sz' dz' i134 jz
  replace i1 := i1.mv (jz 1 (by decide))
  replace i3 := i3.mv (jz 3 (by decide))
  replace i125 := i125.mv (jz 125 (by decide))
  replace i129 := i129.mv (jz 129 (by decide))
  replace i133 := i133.mv (jz 133 (by decide))
  replace dz := dz'.trans dz
  clear jz dz' sz
  have sz := sz'
  clear sz'
  refine st_val 135 rfl sz (by decide) (((true && (P92_6 == false)) && (Lk_eql_6 == true)) && (Ls_lss_1 == false)) (wanted_some rfl rfl (by rw [sz]; decide) i133) (.int .i64 (s : Nat)) (fun h => ex_load Tryz.isAgg3 rfl (i134.get h) c1) ?_
  intro A sz' dz' i135 jz
  replace i1 := i1.mv (jz 1 (by decide))
  replace i3 := i3.mv (jz 3 (by decide))
  replace i125 := i125.mv (jz 125 (by decide))
  replace i129 := i129.mv (jz 129 (by decide))
  replace i133 := i133.mv (jz 133 (by decide))
  replace dz := dz'.trans dz
  clear jz dz' sz i134
  have sz := sz'
  clear sz'
  refine st_val 136 rfl sz (by decide) (((true && (P92_6 == false)) && (Lk_eql_6 == true)) && (Ls_lss_1 == false)) (wanted_some rfl rfl (by rw [sz]; decide) i133) (.bool Ls_gtr_5) (fun h => ex_bin rfl (i135.get h) rfl (bin_gtr hLs_gtr_5) eqg_int) ?_
  intro A sz' dz' i136 jz
  replace i1 := i1.mv (jz 1 (by decide))
  replace i3 := i3.mv (jz 3 (by decide))
  replace i125 := i125.mv (jz 125 (by decide))
  replace i129 := i129.mv (jz 129 (by decide))
  replace i133 := i133.mv (jz 133 (by decide))
  replace dz := dz'.trans dz
  clear jz dz' sz i135
  have sz := sz'
  clear sz'
  refine st_val 137 rfl sz (by decide) ((true && (P92_6 == false)) && (Lk_eql_6 == true)) (wanted_some rfl rfl (by rw [sz]; decide) i129) (.bool (Ls_lss_1 || Ls_gtr_5)) (fun h => ex_or rfl i133 i136 h) ?_
  intro A sz' dz' i137 jz
  replace i1 := i1.mv (jz 1 (by decide))
  replace i3 := i3.mv (jz 3 (by decide))
  replace i125 := i125.mv (jz 125 (by decide))
  replace i129 := i129.mv (jz 129 (by decide))
  replace dz := dz'.trans dz
  clear jz dz' sz i133 i136
  have sz := sz'
  clear sz'
  obtain ⟨P92_7, eP92_7⟩ : ∃ x, (Ls_lss_1 || Ls_gtr_5) = x := ⟨_, rfl⟩
  rw [eP92_7] at i137
  refine st_val 138 rfl sz (by decide) (true && (P92_6 == false)) (wanted_some rfl rfl (by rw [sz]; decide) i125) (.bool (Lk_eql_6 && P92_7)) (fun h => ex_and rfl i129 i137 h) ?_
  intro A sz' dz' i138 jz
  replace i1 := i1.mv (jz 1 (by decide))
  replace i3 := i3.mv (jz 3 (by decide))
  replace i125 := i125.mv (jz 125 (by decide))
  replace dz := dz'.trans dz
  clear jz dz' sz i129 i137
  have sz := sz'
  clear sz'
  obtain ⟨P92_8, eP92_8⟩ : ∃ x, (Lk_eql_6 && P92_7) = x := ⟨_, rfl⟩
  rw [eP92_8] at i138
  refine st_val 139 rfl sz (by decide) true (wanted_none rfl) (.bool (P92_6 || P92_8)) (fun h => ex_or rfl i125 i138 rfl) ?_
  intro A sz' dz' i139 jz
  replace i1 := i1.mv (jz 1 (by decide))
  replace i3 := i3.mv (jz 3 (by decide))
  replace dz := dz'.trans dz
  clear jz dz' sz i125 i138
  have sz := sz'
  clear sz'
  obtain ⟨P92_9, eP92_9⟩ : ∃ x, (P92_6 || P92_8) = x := ⟨_, rfl⟩
  rw [eP92_9] at i139
  refine st_val 140 rfl sz (by decide) true (wanted_none rfl) (.bool P92_9) (fun h => ex_move rfl (i139.get rfl)) ?_
  intro A sz' dz' i140 jz
  replace i1 := i1.mv (jz 1 (by decide))
  replace i3 := i3.mv (jz 3 (by decide))
  replace dz := dz'.trans dz
  clear jz dz' sz i139
  have sz := sz'
  clear sz'
  refine st_val 141 rfl sz (by decide) (true && (P92_9 == false)) (wanted_some rfl rfl (by rw [sz]; decide) i140) (.pointer (some ⟨H, 0, none⟩)) (fun h => ex_fa0 rfl (i1.get rfl)) ?_
  intro A sz' dz' i141 jz
  replace i1 := i1.mv (jz 1 (by decide))
  replace i3 := i3.mv (jz 3 (by decide))
  replace i140 := i140.mv (jz 140 (by decide))
  replace dz := dz'.trans dz
  clear jz dz' sz
  have sz := sz'
  clear sz'
  refine st_val 142 rfl sz (by decide) (true && (P92_9 == false)) (wanted_some rfl rfl (by rw [sz]; decide) i140) (.int .i64 (k : Nat)) (fun h => ex_load Tryz.isAgg3 rfl (i141.get h) c0) ?_
  intro A sz' dz' i142 jz
  replace i1 := i1.mv (jz 1 (by decide))
  replace i3 := i3.mv (jz 3 (by decide))
  replace i140 := i140.mv (jz 140 (by decide))
  replace dz := dz'.trans dz
  clear jz dz' sz i141
  have sz := sz'
  clear sz'
  refine st_val 143 rfl sz (by decide) (true && (P92_9 == false)) (wanted_some rfl rfl (by rw [sz]; decide) i140) (.bool Lk_geq_5) (fun h => ex_bin rfl (i142.get h) rfl (bin_geq hLk_geq_5) eqg_int) ?_
  intro A sz' dz' i143 jz
  replace i1 := i1.mv (jz 1 (by decide))
  replace i3 := i3.mv (jz 3 (by decide))
  replace i140 := i140.mv (jz 140 (by decide))
  replace dz := dz'.trans dz
  clear jz dz' sz i142
  have sz := sz'
  clear sz'
  refine st_val 144 rfl sz (by decide) (true && (P92_9 == false)) (wanted_some rfl rfl (by rw [sz]; decide) i140) (.bool Lk_geq_5) (fun h => ex_move rfl (i143.get h)) ?_
  intro A sz' dz' i144 jz
  replace i1 := i1.mv (jz 1 (by decide))
  replace i3 := i3.mv (jz 3 (by decide))
  replace i140 := i140.mv (jz 140 (by decide))
  replace dz := dz'.trans dz
  clear jz dz' sz i143
  have sz := sz'
  clear sz'
  refine st_val 145 rfl sz (by decide) ((true && (P92_9 == false)) && (Lk_geq_5 == true)) (wanted_some rfl rfl (by rw [sz]; decide) i144) (.pointer (some ⟨H, 6, none⟩)) (fun h => ex_fa6 rfl (i1.get rfl)) ?_
  intro A sz' dz' i145 jz
  replace i1 := i1.mv (jz 1 (by decide))
  replace i3 := i3.mv (jz 3 (by decide))
  replace i140 := i140.mv (jz 140 (by decide))
  replace i144 := i144.mv (jz 144 (by decide))
  replace dz := dz'.trans dz
  clear jz dz' sz
  have sz := sz'
  clear sz'
  refine st_val 146 rfl sz (by decide) ((true && (P92_9 == false)) && (Lk_geq_5 == true)) (wanted_some rfl rfl (by rw [sz]; decide) i144) (.int .u64 (v : Nat)) (fun h => ex_load Tryz.isAgg42 rfl (i145.get h) c6) ?_
  intro A sz' dz' i146 jz
  replace i1 := i1.mv (jz 1 (by decide))
  replace i3 := i3.mv (jz 3 (by decide))
  replace i140 := i140.mv (jz 140 (by decide))
  replace i144 := i144.mv (jz 144 (by decide))
  replace dz := dz'.trans dz
  clear jz dz' sz i145
  have sz := sz'
  clear sz'
  refine st_val 147 rfl sz (by decide) ((true && (P92_9 == false)) && (Lk_geq_5 == true)) (wanted_some rfl rfl (by rw [sz]; decide) i144) (.bool Lv_lss_1) (fun h => ex_bin rfl (i146.get h) rfl (bin_lss hLv_lss_1) eqg_int) ?_
  intro A sz' dz' i147 jz
  replace i1 := i1.mv (jz 1 (by decide))
  replace i3 := i3.mv (jz 3 (by decide))
  replace i140 := i140.mv (jz 140 (by decide))
  replace i144 := i144.mv (jz 144 (by decide))
  replace dz := dz'.trans dz
  clear jz dz' sz i146
  have sz := sz'
  clear sz'
  refine st_val 148 rfl sz (by decide) ((true && (P92_9 == false)) && (Lk_geq_5 == true)) (wanted_some rfl rfl (by rw [sz]; decide) i144) (.bool Lv_lss_1) (fun h => ex_move rfl (i147.get h)) ?_
  intro A sz' dz' i148 jz
  replace i1 := i1.mv (jz 1 (by decide))
  replace i3 := i3.mv (jz 3 (by decide))
  replace i140 := i140.mv (jz 140 (by decide))
  replace i144 := i144.mv (jz 144 (by decide))
  replace dz := dz'.trans dz
  clear jz dz' sz i147
  have sz := sz'
  clear sz'
  refine st_val 149 rfl sz (by decide) (((true && (P92_9 == false)) && (Lk_geq_5 == true)) && (Lv_lss_1 == false)) (wanted_some rfl rfl (by rw [sz]; decide) i148) (.pointer (some ⟨H, 6, none⟩)) (fun h => ex_fa6 rfl (i1.get rfl)) ?_
  intro A sz' dz' i149 jz
  replace i1 := i1.mv (jz 1 (by decide))
  replace i3 := i3.mv (jz 3 (by decide))
  replace i140 := i140.mv (jz 140 (by decide))
  replace i144 := i144.mv (jz 144 (by decide))
  replace i148 := i148.mv (jz 148 (by decide))
  replace dz := dz'.trans dz
  clear jz dz' sz
  have sz := sz'
  clear sz'
  refine st_val 150 rfl sz (by decide) (((true && (P92_9 == false)) && (Lk_geq_5 == true)) && (Lv_lss_1 == false)) (wanted_some rfl rfl (by rw [sz]; decide) i148) (.int .u64 (v : Nat)) (fun h => ex_load Tryz.isAgg42 rfl (i149.get h) c6) ?_
  intro A sz' dz' i150 jz
  replace i1 := i1.mv (jz 1 (by decide))
  replace i3 := i3.mv (jz 3 (by decide))
  replace i140 := i140.mv (jz 140 (by decide))
  replace i144 := i144.mv (jz 144 (by decide))
  replace i148 := i148.mv (jz 148 (by decide))
  replace dz := dz'.trans dz
  clear jz dz' sz i149
  have sz := sz'
  clear sz'
  refine st_val 151 rfl sz (by decide) (((true && (P92_9 == false)) && (Lk_geq_5 == true)) && (Lv_lss_1 == false)) (wanted_some rfl rfl (by rw [sz]; decide) i148) (.bool Lv_gtr_4294967295) (fun h => ex_bin rfl (i150.get h) rfl (bin_gtr hLv_gtr_4294967295) eqg_int) ?_
  intro A sz' dz' i151 jz
  replace i1 := i1.mv (jz 1 (by decide))
  replace i3 := i3.mv (jz 3 (by decide))
  replace i140 := i140.mv (jz 140 (by decide))
  replace i144 := i144.mv (jz 144 (by decide))
  replace i148 := i148.mv (jz 148 (by decide))
  replace dz := dz'.trans dz
  clear jz dz' sz i150
  have sz := sz'
  clear sz'
  refine st_val 152 rfl sz (by decide) ((true && (P92_9 == false)) && (Lk_geq_5 == true)) (wanted_some rfl rfl (by rw [sz]; decide) i144) (.bool (Lv_lss_1 || Lv_gtr_4294967295)) (fun h => ex_or rfl i148 i151 h) ?_
  intro A sz' dz' i152 jz
  replace i1 := i1.mv (jz 1 (by decide))
  replace i3 := i3.mv (jz 3 (by decide))
  replace i140 := i140.mv (jz 140 (by decide))
  replace i144 := i144.mv (jz 144 (by decide))
  replace dz := dz'.trans dz
  clear jz dz' sz i148 i151
  have sz := sz'
  clear sz'
  obtain ⟨P92_10, eP92_10⟩ : ∃ x, (Lv_lss_1 || Lv_gtr_4294967295) = x := ⟨_, rfl⟩
  rw [eP92_10] at i152
  refine st_val 153 rfl sz (by decide) (true && (P92_9 == false)) (wanted_some rfl rfl (by rw [sz]; decide) i140) (.bool (Lk_geq_5 && P92_10)) (fun h => ex_and rfl i144 i152 h) ?_
  intro A sz' dz' i153 jz
  replace i1 := i1.mv (jz 1 (by decide))
  replace i3 := i3.mv (jz 3 (by decide))
  replace i140 := i140.mv (jz 140 (by decide))
  replace dz := dz'.trans dz
  clear jz dz' sz i144 i152
  have sz := sz'
  clear sz'
  obtain ⟨P92_11, eP92_11⟩ : ∃ x, (Lk_geq_5 && P92_10) = x := ⟨_, rfl⟩
  rw [eP92_11] at i153
  refine st_val 154 rfl sz (by decide) true (wanted_none rfl) (.bool (P92_9 || P92_11)) (fun h => ex_or rfl i140 i153 rfl) ?_
  intro A sz' dz' i154 jz
  replace i1 := i1.mv (jz 1 (by decide))
  replace i3 := i3.mv (jz 3 (by decide))
  replace dz := dz'.trans dz
  clear jz dz' sz i140 i153
  have sz := sz'
  clear sz'
  obtain ⟨P92_12, eP92_12⟩ : ∃ x, (P92_9 || P92_11) = x := ⟨_, rfl⟩
  rw [eP92_12] at i154

  have HR : D.rbad k s u p m v = P92_12 := by
   unfold D.rbad
   rw [hLu_gtr_15, hLm_gtr_63, hLk_eql_2, hLm_eql_0, hLp_gtr_3, hLk_eql_4, hLs_gtr_1, hLk_eql_6, hLs_lss_1, hLs_gtr_5, hLk_geq_5, hLv_lss_1, hLv_gtr_4294967295]
   rw [eP92_1, eP92_2, eP92_3, eP92_4, eP92_5, eP92_6, eP92_7, eP92_8, eP92_9, eP92_10, eP92_11, eP92_12]
  refine wpList_nil ?_
  go_wp2_with fail
  refine wp_cond_split (i154.get rfl) (fun h6 => ?_) (fun h6 => ?_)
  ·go_wp2_with fail
   refine bodyPost_ret (v := .int .i64 5) (by simp [results, Tryz.results46, go_sem, sz]) rfl ⟨?_, BB.out⟩
   rw [HC.out, HF, h4, HR, h6]; rfl
  ·go_upto_region 8 with fail
   refine wp_region_lit ?_
   refine st_val 155 rfl sz (by decide) true (wanted_none rfl) (.pointer (some ⟨H, 8, none⟩)) (fun h => ex_fa8 rfl (i1.get rfl)) ?_
   intro A sz' dz' i155 jz
   replace i1 := i1.mv (jz 1 (by decide))
   replace i3 := i3.mv (jz 3 (by decide))
   replace dz := dz'.trans dz
   clear jz dz' sz
   have sz := sz'
   clear sz'
   refine st_val 156 rfl sz (by decide) true (wanted_none rfl) (.string t) (fun h => ex_load Tryz.isAgg9 rfl (i155.get rfl) c8) ?_
   intro A sz' dz' i156 jz
   replace i1 := i1.mv (jz 1 (by decide))
   replace i3 := i3.mv (jz 3 (by decide))
   replace dz := dz'.trans dz
   clear jz dz' sz i155
   have sz := sz'
   clear sz'
   refine st_val 157 rfl sz (by decide) true (wanted_none rfl) (.int .i64 (t.size : Nat)) (fun h => ex_len rfl (i156.get rfl)) ?_
   intro A sz' dz' i157 jz
   replace i1 := i1.mv (jz 1 (by decide))
   replace i3 := i3.mv (jz 3 (by decide))
   replace dz := dz'.trans dz
   clear jz dz' sz i156
   have sz := sz'
   clear sz'
   refine st_val 158 rfl sz (by decide) true (wanted_none rfl) (.bool Lt_size_gtr_60) (fun h => ex_bin rfl (i157.get rfl) rfl (bin_gtr hLt_size_gtr_60) eqg_int) ?_
   intro A sz' dz' i158 jz
   replace i1 := i1.mv (jz 1 (by decide))
   replace i3 := i3.mv (jz 3 (by decide))
   replace dz := dz'.trans dz
   clear jz dz' sz i157
   have sz := sz'
   clear sz'

   refine wpList_nil ?_
   go_wp2_with fail
   refine wp_cond_split (i158.get rfl) (fun h8 => ?_) (fun h8 => ?_)
   ·go_wp2_with fail
    refine bodyPost_ret (v := .int .i64 2) (by simp [results, Tryz.results46, go_sem, sz]) rfl ⟨?_, BB.out⟩
    rw [HC.out, HF, h4, HR, h6, hLt_size_gtr_60, h8]; rfl
   ·go_upto_region 10 with fail
    refine wp_region_lit ?_
    refine st_val 159 rfl sz (by decide) true (wanted_none rfl) (.pointer (some ⟨H, 5, none⟩)) (fun h => ex_fa5 rfl (i1.get rfl)) ?_
    intro A sz' dz' i159 jz
    replace i1 := i1.mv (jz 1 (by decide))
    replace i3 := i3.mv (jz 3 (by decide))
    replace dz := dz'.trans dz
    clear jz dz' sz
    have sz := sz'
    clear sz'
    refine st_val 160 rfl sz (by decide) true (wanted_none rfl) (.bool g) (fun h => ex_load Tryz.isAgg4 rfl (i159.get rfl) c5) ?_
    intro A sz' dz' i160 jz
    replace i1 := i1.mv (jz 1 (by decide))
    replace i3 := i3.mv (jz 3 (by decide))
    replace dz := dz'.trans dz
    clear jz dz' sz i159
    have sz := sz'
    clear sz'
    refine st_val 161 rfl sz (by decide) true (wanted_none rfl) (.bool g) (fun h => ex_move rfl (i160.get rfl)) ?_
    intro A sz' dz' i161 jz
    replace i1 := i1.mv (jz 1 (by decide))
    replace i3 := i3.mv (jz 3 (by decide))
    replace dz := dz'.trans dz
    clear jz dz' sz i160
    have sz := sz'
    clear sz'
    refine st_val 162 rfl sz (by decide) (true && (g == true)) (wanted_some rfl rfl (by rw [sz]; decide) i161) (.pointer (some ⟨H, 8, none⟩)) (fun h => ex_fa8 rfl (i1.get rfl)) ?_
    intro A sz' dz' i162 jz
    replace i1 := i1.mv (jz 1 (by decide))
    replace i3 := i3.mv (jz 3 (by decide))
    replace i161 := i161.mv (jz 161 (by decide))
    replace dz := dz'.trans dz
    clear jz dz' sz
    have sz := sz'
    clear sz'
    refine st_val 163 rfl sz (by decide) (true && (g == true)) (wanted_some rfl rfl (by rw [sz]; decide) i161) (.string t) (fun h => ex_load Tryz.isAgg9 rfl (i162.get h) c8) ?_
    intro A sz' dz' i163 jz
    replace i1 := i1.mv (jz 1 (by decide))
    replace i3 := i3.mv (jz 3 (by decide))
    replace i161 := i161.mv (jz 161 (by decide))
    replace dz := dz'.trans dz
    clear jz dz' sz i162
    have sz := sz'
    clear sz'
    refine st_val 164 rfl sz (by decide) (true && (g == true)) (wanted_some rfl rfl (by rw [sz]; decide) i161) (.bool Lxt) (fun h => ex_bin rfl (i163.get h) rfl (bin_ne_str hLxt) eqg_str) ?_
    intro A sz' dz' i164 jz
    replace i1 := i1.mv (jz 1 (by decide))
    replace i3 := i3.mv (jz 3 (by decide))
    replace i161 := i161.mv (jz 161 (by decide))
    replace dz := dz'.trans dz
    clear jz dz' sz i163
    have sz := sz'
    clear sz'
    refine st_val 165 rfl sz (by decide) true (wanted_none rfl) (.bool (g && Lxt)) (fun h => ex_and rfl i161 i164 rfl) ?_
    intro A sz' dz' i165 jz
    replace i1 := i1.mv (jz 1 (by decide))
    replace i3 := i3.mv (jz 3 (by decide))
    replace dz := dz'.trans dz
    clear jz dz' sz i161 i164
    have sz := sz'
    clear sz'
    obtain ⟨P159_1, eP159_1⟩ : ∃ x, (g && Lxt) = x := ⟨_, rfl⟩
    rw [eP159_1] at i165

    refine wpList_nil ?_
    go_wp2_with fail
    refine wp_cond_split (i165.get rfl) (fun h10 => ?_) (fun h10 => ?_)
    ·go_wp2_with fail
     refine bodyPost_ret (v := .int .i64 3) (by simp [results, Tryz.results46, go_sem, sz]) rfl ⟨?_, BB.out⟩
     rw [HC.out, HF, h4, HR, h6, hLt_size_gtr_60, h8, hLxt, eP159_1, h10]; rfl
    ·go_wp2_with fail
     refine bodyPost_ret (v := .int .i64 0) (by simp [results, Tryz.results46, go_sem, sz]) rfl ⟨?_, BB.out⟩
     rw [HC.out, HF, h4, HR, h6, hLt_size_gtr_60, h8, hLxt, eP159_1, h10]; rfl
theorem rcheck_kind (k s u p m v a : Nat) (g : Bool) (t : ByteArray) (w : World) (hk : k = 0 ∨ 6 < k) :
  Calls Tryz.prog 46 #[.agg (dS.v ⟨k, s, u, p, m, g, v, a, t⟩)] w fun en w' => en = .returned (.int .i64 16) ∧ Below w.heap.size w w' := by
 have D0 := Lib.hid (Blk.new w 69 (dS.v ⟨k, s, u, p, m, g, v, a, t⟩))
 obtain ⟨c0, c1, c2, c3, c4, c5, c6, c7, c8⟩ := df_of (Shp.rd_blk D0.out)
 rcases hk with rfl | hk
 ·go_enter Tryz.func46, Tryz.ntmps46
  go_wp2
  go_ret
  exact ⟨rfl, below_alloc _ _⟩
 ·have e1 : ¬ ((k : Int) < 1) := by omega
  have e2 : (6 : Int) < (k : Int) := by omega
  go_enter Tryz.func46, Tryz.ntmps46
  go_wp2
  go_ret
  exact ⟨rfl, below_alloc _ _⟩
theorem rcheck_any (r : D.Rc) (w : World) :
  Calls Tryz.prog 46 #[.agg (dS.v r)] w fun en w' => en = .returned (.int .i64 (D.chk r : Nat)) ∧ Below w.heap.size w w' := by
 obtain ⟨k, s, u, p, m, g, v, a, t⟩ := r
 by_cases hk : k = 0 ∨ 6 < k
 ·have e : D.chk ⟨k, s, u, p, m, g, v, a, t⟩ = 16 := by unfold D.chk; rw [if_pos hk]
  rw [e]
  exact rcheck_kind k s u p m v a g t w hk
 ·have h1 : 1 ≤ k := by omega
  have h6 : k ≤ 6 := by omega
  have hz : (D.usz k).size ≤ 1000 := by
   have hk : k = 1 ∨ k = 2 ∨ k = 3 ∨ k = 4 ∨ k = 5 ∨ k = 6 := by omega
   rcases hk with rfl | rfl | rfl | rfl | rfl | rfl <;> decide
  refine rcheck_ok k s u p m v a g t w _ rfl hz h1 h6 fun W => ?_
  have hk : k = 1 ∨ k = 2 ∨ k = 3 ∨ k = 4 ∨ k = 5 ∨ k = 6 := by omega
  rcases hk with rfl | rfl | rfl | rfl | rfl | rfl
  ·exact uses_1 W
  ·exact uses_2 W
  ·exact uses_3 W
  ·exact uses_4 W
  ·exact uses_5 W
  ·exact uses_6 W
end Go.Proofs.YtjlaffgbmcpldaaGreatDoor
set_option linter.unusedVariables false
set_option linter.unusedSimpArgs false
set_option maxRecDepth 100000
namespace Go.Proofs.YtjlaffgbmcpldaaGreatDoor
open Go.RowKit
attribute [local go_sem ↓] Go.wp_at_zero Go.wp_at_succ ld_v lv_v st_v ne_v bd_v bs_v ld_w lv_w st_w ne_w bd_w bs_w ld_rh ld_d lv_rh lv_d st_r st_d ne_rh eq_rh ne_d bd_rh bd_d
attribute [local go_sem] run_ldv run_lvv run_stv run_nev run_bdv_z run_bdv_d run_bdv_r run_bsv1 run_bsv0 run_ldw run_lvw run_stw run_new run_bdw_3 run_bsw1 run_bsw0 run_ldrh run_ldd run_lvrh run_lvd run_str run_std run_nerh run_eqrh run_ned run_bdr0 run_bdd0 run_bdr1 run_bdd1 run_bdd9 Shp.rd_new Shp.rd_old Shp.rd_drew Shp.rd_drewN Shp.rd_set Shp.tn_new Shp.tn_old Shp.tn_drew Shp.tn_drewN setRow_alloc
theorem all_any (g n c : Nat) (A : Option Addr) (w : World) (h : w.cell? ⟨g, 0, none⟩ = some (.slice A n c)) : Calls Tryz.prog 110 #[.pointer (some ⟨g, 0, none⟩)] w fun e w' => e = .returned (.slice A n c) ∧ w' = w := by
 go_enter Tryz.func110, Tryz.ntmps110
 go_wp2
 go_ret
 exact ⟨rfl, rfl⟩
theorem all_nil (w : World) : Calls Tryz.prog 110 #[.pointer none] w fun e w' => e = .returned (.slice none 0 0) ∧ w' = w := by
 go_enter Tryz.func110, Tryz.ntmps110
 go_wp2
 go_ret
 exact ⟨rfl, rfl⟩
set_option maxHeartbeats 1000000 in
theorem seen1_any (b1 b2 n c t i : Nat) (A : Option Addr) (l : List D.Vn) (v : D.Vn) (w : World) (h1 : w.cell? ⟨b1, 0, none⟩ = some (.slice A n c)) (h2 : w.cell? ⟨b2, 0, none⟩ = some (.int .u64 (t : Nat))) (hr : Shp.Row vS w A n l) (hv : l[i]? = some v) :
  Calls Tryz.prog 144 #[.int .i64 (i : Nat), .pointer (some ⟨b1, 0, none⟩), .pointer (some ⟨b2, 0, none⟩)] w fun e w' => e = .returned (.bool (decide (t < v.a))) ∧ Below w.heap.size w w' := by
 have hi : (i : Int) < (n : Int) := by have := (List.getElem?_eq_some_iff.1 hv).1; have := hr.len; omega
 have i0 : (0 : Int) ≤ (i : Int) := by omega
 obtain ⟨ad, rfl, hlt, hrd⟩ := hr.rd hv
 obtain ⟨q0, -, -⟩ := vr hrd
 clear hr hv hrd
 go_enter Tryz.func144, Tryz.ntmps144
 go_wp2_with fail
 go_quiet (fail)
 go_wp2
 go_ret
 exact ⟨by simp, below_dn (Below.refl _ _) _⟩
set_option maxHeartbeats 2000000 in
theorem search_any (b1 b2 n c t : Nat) (A : Option Addr) (l : List D.Vn) (w : World) (h1 : w.cell? ⟨b1, 0, none⟩ = some (.slice A n c)) (h2 : w.cell? ⟨b2, 0, none⟩ = some (.int .u64 (t : Nat))) (hr : Shp.Row vS w A n l) (hs : D.Srt l) (hn : n ≤ 1000000) :
  Calls Tryz.prog 143 #[.int .i64 (n : Nat), .func (.func 144) #[] #[.pointer (some ⟨b1, 0, none⟩), .pointer (some ⟨b2, 0, none⟩)]] w fun e w' => e = .returned (.int .i64 (D.cnt l t : Nat)) ∧ Below w.heap.size w w' := by
 have CC := Lib.hid (fun (W : World) (hb : Below w.heap.size w W) i v (hv : l[i]? = some v) => seen1_any b1 b2 n c t i A l v W (cell_kept_ hb h1) (cell_kept_ hb h2) (hr.on hb) hv)
 have HS := Lib.hid hs
 have hlen := hr.len
 clear h1 h2 hr hs
 go_enter Tryz.func143, Tryz.ntmps143
 go_wp2_with fail
 go_loopw [5, 6] (fun x y wr => ∃ lo hi : Nat, x = .int .i64 lo ∧ y = .int .i64 hi ∧ lo ≤ hi ∧ hi ≤ n ∧ Below w.heap.size w wr ∧ Kept ((∀ k v, l[k]? = some v → k < lo → v.a ≤ t) ∧ (∀ k v, l[k]? = some v → hi ≤ k → t < v.a))) (fun x y _ => (intOf y).toNat - (intOf x).toNat)
 case atStart => exact ⟨0, n, rfl, rfl, Nat.zero_le _, Nat.le_refl _, Below.refl _ _, ⟨fun k v _ h => absurd h (by omega), fun k v hv h => absurd (List.getElem?_eq_some_iff.1 hv).1 (by omega)⟩⟩
 case round =>
  obtain ⟨lo, hi, rfl, rfl, hlh, hin, hb, HI⟩ := hrel
  by_cases hlt : lo < hi
  ·obtain ⟨v, hv⟩ : ∃ v, l[(lo + hi) / 2]? = some v := ⟨_, List.getElem?_eq_getElem (by omega)⟩
   have C1 := CC.out wr hb _ v hv
   rw [show (((lo + hi) / 2 : Nat) : Int) = ((lo : Int) + (hi : Int)) / 2 by omega] at C1
   have HV := Lib.hid hv
   clear hv
   by_cases ht : t < v.a
   ·rw [decide_eq_true ht] at C1
    have HT := Lib.hid ht
    clear ht
    go_wp2_with (go_at_call 144; (refine C1.mono ?_); rintro e w1 ⟨rfl, b1⟩)
    go_roundw
    case rel => exact ⟨lo, (lo + hi) / 2, rfl, by rw [show ((lo : Int) + (hi : Int)) / 2 = (((lo + hi) / 2 : Nat) : Int) by omega], by omega, by omega, below_up hb hb.size b1, ⟨HI.out.1, fun k u hu hk => by
     by_cases e : (lo + hi) / 2 = k
     ·subst e; have := HV.out.symm.trans hu; injection this with this; subst this; exact HT.out
     ·have := HS.out.lt HV.out hu (by omega); have := HT.out; omega⟩⟩
    case measure => simp [intOf]; omega
   ·rw [decide_eq_false ht] at C1
    have HT := Lib.hid ht
    clear ht
    go_wp2_with (go_at_call 144; (refine C1.mono ?_); rintro e w1 ⟨rfl, b1⟩)
    go_roundw
    case rel => exact ⟨(lo + hi) / 2 + 1, hi, by rw [show ((lo : Int) + (hi : Int)) / 2 + 1 = (((lo + hi) / 2 + 1 : Nat) : Int) by omega], rfl, by omega, hin, below_up hb hb.size b1, ⟨fun k u hu hk => by
     by_cases e : (lo + hi) / 2 = k
     ·subst e; have := HV.out.symm.trans hu; injection this with this; subst this; have := HT.out; omega
     ·have := HS.out.lt hu HV.out (by omega); have := HT.out; omega, HI.out.2⟩⟩
    case measure => simp [intOf]; omega
  ·obtain rfl : lo = hi := by omega
   have he := D.cnt_is (l := l) (t := t) (i := lo) (by omega) HI.out.1 HI.out.2
   go_wp2
   go_ret
   exact ⟨by rw [he]; rfl, hb⟩
structure Al (w : World) (p A : Option Addr) (n c : Nat) (l : List D.Vn) : Prop where
 all : ∀ W, Below w.heap.size w W → Calls Tryz.prog 110 #[.pointer p] W fun e w' => e = .returned (.slice A n c) ∧ w' = W
 row : Shp.Row vS w A n l
 srt : D.Srt l
 le : n ≤ 1000000
theorem Al.on {w w' : World} {p A : Option Addr} {n c : Nat} {l : List D.Vn} (h : Al w p A n c l) (hb : Below w.heap.size w w') : Al w' p A n c l := ⟨fun W hW => h.all W (below_up hb hb.size hW), h.row.on hb, h.srt, h.le⟩
theorem Al.nil (w : World) : Al w none none 0 0 [] := ⟨fun W _ => all_nil W, Shp.Row.nil _ _, D.Srt.nil, Nat.zero_le _⟩
theorem Al.of {w : World} {g n c : Nat} {A : Option Addr} {l : List D.Vn} (h : w.cell? ⟨g, 0, none⟩ = some (.slice A n c)) (hr : Shp.Row vS w A n l) (hs : D.Srt l) (hn : n ≤ 1000000) : Al w (some ⟨g, 0, none⟩) A n c l :=
 ⟨fun W hW => all_any g n c A W (cell_kept_ hW h), hr, hs, hn⟩
set_option maxHeartbeats 2000000 in
theorem seen_any {w : World} {p : Option Addr} {A : Option Addr} {n c : Nat} {l : List D.Vn} (h : Al w p A n c l) (t : Nat) :
  Calls Tryz.prog 114 #[.pointer p, .int .u64 (t : Nat)] w fun e w' => e = .returned (.agg (vS.v (D.seen l t))) ∧ Below w.heap.size w w' := by
 have hr := h.row
 have hs := h.srt
 have hn := h.le
 have HA := Lib.hid h.all
 have HS := Lib.hid hs
 have hlen := hr.len
 go_enter Tryz.func114, Tryz.ntmps114
 go_wp2_with fail
 have z0 : Below w.heap.size w ((w.alloc (.cells #[.int .u64 (t : Nat)] 42)).alloc (.cells #[.int .u64 0, .bool false, .int .u8 0, .int .u8 0, .int .u8 0, .int .u8 0, .int .u8 0, .bool false, .int .u32 0, .int .u64 0, .string ⟨#[]⟩] 194)) := ((Below.refl _ _).alloc (Nat.le_refl _) _).alloc (by simp) _
 have f1 : ((w.alloc (.cells #[.int .u64 (t : Nat)] 42)).alloc (.cells #[.int .u64 0, .bool false, .int .u8 0, .int .u8 0, .int .u8 0, .int .u8 0, .int .u8 0, .bool false, .int .u32 0, .int .u64 0, .string ⟨#[]⟩] 194)).cell? ⟨w.heap.size, 0, none⟩ = some (.int .u64 (t : Nat)) := ((Blk.new w _ _).alloc _).cell
 have f2 : Shp.tn 11 ((w.alloc (.cells #[.int .u64 (t : Nat)] 42)).alloc (.cells #[.int .u64 0, .bool false, .int .u8 0, .int .u8 0, .int .u8 0, .int .u8 0, .int .u8 0, .bool false, .int .u32 0, .int .u64 0, .string ⟨#[]⟩] 194)) (w.heap.size + 1) = true := Shp.tn_new _ _ _ _ _ (by simp) rfl
 generalize (w.alloc (.cells #[.int .u64 (t : Nat)] 42)).alloc (.cells #[.int .u64 0, .bool false, .int .u8 0, .int .u8 0, .int .u8 0, .int .u8 0, .int .u8 0, .bool false, .int .u32 0, .int .u64 0, .string ⟨#[]⟩] 194) = W0 at z0 f1 f2 ⊢
 refine (HA.out W0 z0).mono ?_
 rintro e w1 ⟨rfl, rfl⟩
 have hB := Blk.new w1 187 #[.slice A n c]
 have z1 := below_alloc_ w1 (.cells #[.slice A n c] 187)
 obtain ⟨W1, hW1⟩ : ∃ W1, w1.alloc (.cells #[.slice A n c] 187) = W1 := ⟨_, rfl⟩
 rw [hW1] at hB z1
 have CS := Lib.hid (search_any w1.heap.size w.heap.size n c t A l W1 hB.cell (cell_kept_ z1 f1) ((hr.on z0).on z1) hs hn)
 have hZ := Lib.hid (z0.trans (z1.mono z0.size))
 have f3 := Shp.tn_on f2 z1
 have c1 := hB.cell
 have hr1 := (hr.on z0).on z1
 clear hr h hB z0 z1 f1 f2
 have hcl := D.cnt_le l t
 by_cases hc : D.cnt l t = 0
 ·rw [hc] at CS
  have HE := Lib.hid (D.seen_0 hc)
  clear hr1
  go_wp2_with (go_at_call 143; (with_reducible refine CS.out.mono ?_); rintro e w2 ⟨rfl, b2⟩; have f4 := Shp.tn_on f3 b2)
  refine bodyPost_ret (v := .agg (vS.v (D.dd 0))) (by rw [results_cell1 rfl]; simp [asAddr, Result.andThen, lvv_of (Shp.rd_set (S := vS) w2 (w.heap.size + 1) (D.dd 0) f4)]) rfl ⟨by rw [HE.out], ?_⟩
  exact bel_setRow (below_up hZ.out hZ.out.size b2) (by omega) _
 ·obtain ⟨v, hv, he, -⟩ := D.seen_mem hc
  have HE := Lib.hid he
  have i0 : ¬ ((D.cnt l t : Int) = 0) := by omega
  have i1 : (0 : Int) ≤ (D.cnt l t : Int) - 1 := by omega
  have i2 : (D.cnt l t : Int) - 1 < (n : Int) := by omega
  have i3 : (((D.cnt l t - 1 : Nat)) : Int) = (D.cnt l t : Int) - 1 := by omega
  obtain ⟨k, hk⟩ : ∃ k, D.cnt l t = k + 1 := ⟨D.cnt l t - 1, by omega⟩
  obtain ⟨ad, rfl, hlt, hrd⟩ := hr1.rd hv
  rw [hk, Nat.add_sub_cancel] at hrd
  have HRD := Lib.hid hrd
  rw [hk] at CS hcl
  have j1 : (k : Int) < (n : Int) := by omega
  clear hr1 hrd i0 i1 i2 i3 he hv
  go_wp2_with (go_at_call 143; (with_reducible refine CS.out.mono ?_); rintro e w2 ⟨rfl, b2⟩; have f4 := Shp.tn_on f3 b2; have c2 := cell_kept_ b2 c1; have r2 : vS.rd w2 (ad.add (k * 11)) = some v := Shp.rd_on HRD.out b2)
  refine bodyPost_ret (v := .agg (vS.v v)) (by rw [results_cell1 rfl]; simp [asAddr, Result.andThen, lvv_of (Shp.rd_set (S := vS) w2 (w.heap.size + 1) v f4)]) rfl ⟨by rw [HE.out], ?_⟩
  exact bel_setRow (below_up hZ.out hZ.out.size b2) (by omega) _
end Go.Proofs.YtjlaffgbmcpldaaGreatDoor
set_option linter.unusedVariables false
set_option linter.unusedSimpArgs false
set_option maxRecDepth 100000
namespace Go.Proofs.YtjlaffgbmcpldaaGreatDoor
open Go.RowKit
theorem vv_0 (x : D.Vn) : (vS.v x)[0]? = some (.int .u64 (x.a : Nat)) := rfl
theorem vv_1 (x : D.Vn) : (vS.v x)[1]? = some (.bool x.d) := rfl
theorem wv_0 (x : D.Vn) : (wS.v x)[0]? = some (.int .u64 (x.a : Nat)) := rfl
theorem wv_1 (x : D.Vn) : (wS.v x)[1]? = some (.bool x.d) := rfl
theorem run_fdv0 (w : World) (x : D.Vn) : (Instr.field 194 (.agg (vS.v x)) 0).run Tryz.prog w = .ok (.int .u64 (x.a : Nat)) w := by
 simp [vv_eq, Instr.field, asAgg, go_sem]
theorem run_fdv1 (w : World) (x : D.Vn) : (Instr.field 194 (.agg (vS.v x)) 1).run Tryz.prog w = .ok (.bool x.d) w := by
 simp [vv_eq, Instr.field, asAgg, go_sem]
attribute [local go_sem ↓] Go.wp_at_zero Go.wp_at_succ ld_v lv_v st_v ne_v bd_v bs_v ld_w lv_w st_w ne_w bd_w bs_w ld_rh ld_d lv_rh lv_d st_r st_d ne_rh eq_rh ne_d bd_rh bd_d
attribute [local go_sem] run_ldv run_lvv run_stv run_nev run_bdv_z run_bdv_d run_bdv_r run_bsv1 run_bsv0 run_ldw run_lvw run_stw run_new run_bdw_3 run_bsw1 run_bsw0 run_ldrh run_ldd run_lvrh run_lvd run_str run_std run_nerh run_eqrh run_ned run_bdr0 run_bdd0 run_bdr1 run_bdd1 run_bdd9 Shp.rd_new Shp.rd_old Shp.rd_drew Shp.rd_drewN Shp.rd_set Shp.tn_new Shp.tn_old Shp.tn_drew Shp.tn_drewN setRow_alloc vv_0 vv_1 wv_0 wv_1 run_fdv0 run_fdv1 Shp.rd_extk cell_ext
def D.liv (l : List D.Vn) : Bool := match l.getLast? with
 | none => false
 | some v => !v.d
theorem D.liv_seen {l : List D.Vn} (h : D.Srt l) {t : Nat} (ht : D.nwt l ≤ t) : (!(D.seen l t).d) = D.liv l := by
 rw [D.seen_late h ht, D.liv]
 cases l.getLast? <;> rfl
theorem D.nwt_top {l : List D.Vn} (h : ∀ v ∈ l, v.wf) : D.nwt l ≤ 18446744073709551615 := by
 rw [D.nwt]
 cases hl : l.getLast? with
 | none => exact Nat.zero_le _
 | some v => have := (h v (List.mem_of_getLast? hl)).a; simp only; omega
section
variable {w : World} {p A : Option Addr} {n c : Nat} {l : List D.Vn}
theorem seen_top (h : Al w p A n c l) : Calls Tryz.prog 114 #[.pointer p, .int .u64 18446744073709551615] w fun e w' => e = .returned (.agg (vS.v (D.seen l 18446744073709551615))) ∧ Below w.heap.size w w' := seen_any h 18446744073709551615
theorem newest_any (h : Al w p A n c l) (hw : ∀ v ∈ l, v.wf) : Calls Tryz.prog 81 #[.pointer p] w fun e w' => e = .returned (.int .u64 (D.nwt l : Nat)) ∧ Below w.heap.size w w' := by
 have CS := Lib.hid (seen_top h)
 have HE := Lib.hid (D.nwt_seen h.srt (D.nwt_top hw))
 clear h
 go_enter Tryz.func81, Tryz.ntmps81
 go_wp2_with (go_at_call 114; (with_reducible refine CS.out.mono ?_); rintro e w1 ⟨rfl, b1⟩)
 go_ret
 exact ⟨by rw [← HE.out]; rfl, b1⟩
theorem live_any (h : Al w p A n c l) (hw : ∀ v ∈ l, v.wf) : Calls Tryz.prog 91 #[.pointer p] w fun e w' => e = .returned (.bool (D.liv l)) ∧ Below w.heap.size w w' := by
 have CS := Lib.hid (seen_top h)
 have HE := Lib.hid (D.liv_seen h.srt (D.nwt_top hw))
 clear h
 go_enter Tryz.func91, Tryz.ntmps91
 go_wp2_with (go_at_call 114; (with_reducible refine CS.out.mono ?_); rintro e w1 ⟨rfl, b1⟩)
 go_ret
 exact ⟨by rw [← HE.out]; rfl, b1⟩
theorem ver_info : (Tryz.prog.info? 194).map (fun i => (i.zero, i.size, i.bytes)) = some (some (.agg (vS.v D.zVn)), 11, 56) := by kernel_rfl
theorem ow_vrow {T : TypeId} {base n c : Nat} {A : Option Addr} {W : World} (h : Ow T 11 base W A n c (vS.rcs l)) : Shp.Row vS W A n l := Shp.Own.to_row (S := vS) (base := base) (e := T) (c := c) ⟨h.row, h.base⟩
end
set_option maxHeartbeats 2000000 in
theorem weigh_any (v : D.Vn) (w : World) (hw : v.wf) : Calls Tryz.prog 123 #[.agg (vS.v v)] w fun e w' => e = .returned (.int .i64 (D.wgh v : Nat)) ∧ Below w.heap.size w w' := by
 have q0 := Shp.rd_new (S := vS) w w.heap.size 194 v rfl
 obtain ⟨q1, q2, q3, -⟩ := vf q0
 have b0 := below_alloc_ w (.cells (vS.v v) 194)
 by_cases hd : v.d = true
 ·by_cases hr : v.r = D.zRc
  ·have e : D.wgh v = 0 := by simp [D.wgh, hd, hr]
   have hv : v = D.dd v.a := by obtain ⟨a, d, r⟩ := v; simp only at hd hr; subst hd hr; rfl
   have hde : decide (v = D.dd v.a) = true := decide_eq_true hv
   rw [e]
   rw [hd] at q2
   clear hv
   go_enter Tryz.func123, Tryz.ntmps123
   go_wp2
   go_ret
   exact ⟨rfl, b0⟩
  ·have e : D.wgh v = 3 := by simp [D.wgh, hd, hr]
   have hde : decide (v = D.dd v.a) = false := decide_eq_false fun h => hr (by rw [h]; rfl)
   rw [e]
   rw [hd] at q2
   go_enter Tryz.func123, Tryz.ntmps123
   go_wp2
   go_ret
   exact ⟨rfl, b0⟩
 ·have e : D.wgh v = D.chk v.r := by simp [D.wgh, hd]
  have hd : v.d = false := by simpa using hd
  have CC := Lib.hid (fun W => check_any v.r W hw.r)
  rw [e]
  rw [hd] at q2
  go_enter Tryz.func123, Tryz.ntmps123
  go_wp2_with (go_at_call 83; (with_reducible refine (CC.out _).mono ?_); rintro e w1 ⟨rfl, b1⟩)
  go_ret
  exact ⟨rfl, below_up b0 b0.size b1⟩
set_option maxHeartbeats 2000000 in
theorem at_any {w : World} {p A : Option Addr} {n c : Nat} {l : List D.Vn} (h : Al w p A n c l) (t : Nat) : Calls Tryz.prog 78 #[.pointer p, .int .u64 (t : Nat)] w fun e w' => e = .returned (.tuple #[.agg (rSh.v (D.seen l t).r), .bool (!(D.seen l t).d)]) ∧ Below w.heap.size w w' := by
 have z0 := below_alloc_ w (.cells #[.int .u8 0, .int .u8 0, .int .u8 0, .int .u8 0, .int .u8 0, .bool false, .int .u32 0, .int .u64 0, .string ⟨#[]⟩] 75)
 have f0 : Shp.tn 9 (w.alloc (.cells #[.int .u8 0, .int .u8 0, .int .u8 0, .int .u8 0, .int .u8 0, .bool false, .int .u32 0, .int .u64 0, .string ⟨#[]⟩] 75)) w.heap.size = true := Shp.tn_new _ _ _ _ _ rfl rfl
 have CS := Lib.hid (seen_any (h.on z0) t)
 clear h
 go_enter Tryz.func78, Tryz.ntmps78
 go_wp2_with (go_at_call 114; (with_reducible refine CS.out.mono ?_); rintro e w1 ⟨rfl, b1⟩)
 have f1 := Shp.tn_on f0 b1
 have hne : w.heap.size < w1.heap.size := by have := b1.size; simp at this; omega
 obtain ⟨W2, hW2⟩ : ∃ W2, w1.alloc (.cells (vS.v (D.seen l t)) 194) = W2 := ⟨_, rfl⟩
 have b2 : Below w1.heap.size w1 W2 := by rw [← hW2]; exact below_alloc_ _ _
 have r2 : vS.rd W2 ⟨w1.heap.size, 0, none⟩ = some (D.seen l t) := by rw [← hW2]; exact Shp.rd_new _ _ _ _ rfl
 obtain ⟨-, q1, q2, -⟩ := vf r2
 have f2 := Shp.tn_on f1 b2
 have hZ := Lib.hid (below_up (below_up z0 z0.size b1) (below_up z0 z0.size b1).size b2)
 rw [hW2]
 clear f0 f1 z0 b1 b2 r2 hW2
 have q3 : rSh.rd W2.drew ⟨w1.heap.size, 2, none⟩ = some (D.seen l t).r := (Shp.rd_drew _ _).trans q2
 have q4 : W2.drew.cell? ⟨w1.heap.size, 1, none⟩ = some (.bool (D.seen l t).d) := q1
 have f3 : Shp.tn 9 W2.drew w.heap.size = true := (Shp.tn_drew _ _ _).trans f2
 refine wp_region_noPanic ?_
 refine wp_region_held_drew (S := fun W => rSh.rd W ⟨w1.heap.size, 2, none⟩ = some (D.seen l t).r ∧ W.cell? ⟨w1.heap.size, 1, none⟩ = some (.bool (D.seen l t).d)) (by kernel_rfl) ⟨q3, q4⟩ (fun sd => ?_)
 refine takeT 0 (some 10) ?vq0 ?hyq0 sd ?restq0
 case hyq0 => (intro o ho W hW; simp only [gT, gS, gZ, sI] at ho; subst ho; (try dsimp only at hW); obtain ⟨k1, k2⟩ := hW; go_simp; try rfl)
 try simp only [Act.put, iT, iZ, iS]
 refine takeT 1 (some 11) (.agg (rSh.v (D.seen l t).r)) ?hyq1 sd ?restq1
 case hyq1 => (intro o ho W hW; simp only [gT, gS, gZ, sI] at ho; subst ho; (try dsimp only at hW); obtain ⟨k1, k2⟩ := hW; go_simp; try rfl)
 try simp only [Act.put, iT, iZ, iS]
 refine takeT 2 (some 12) ?vq2 ?hyq2 sd ?restq2
 case hyq2 => (intro o ho W hW; simp only [gT, gS, gZ, sI] at ho; subst ho; (try dsimp only at hW); obtain ⟨k1, k2⟩ := hW; go_simp; try rfl)
 try simp only [Act.put, iT, iZ, iS]
 refine takeT 3 (some 13) (.bool (D.seen l t).d) ?hyq3 sd ?restq3
 case hyq3 => (intro o ho W hW; simp only [gT, gS, gZ, sI] at ho; subst ho; (try dsimp only at hW); obtain ⟨k1, k2⟩ := hW; go_simp; try rfl)
 try simp only [Act.put, iT, iZ, iS]
 refine takeT 4 (some 14) (.bool (!(D.seen l t).d)) ?hyq4 sd ?restq4
 case hyq4 => (intro o ho W hW; simp only [gT, gS, gZ, sI] at ho; subst ho; (try dsimp only at hW); obtain ⟨k1, k2⟩ := hW; go_simp; try rfl)
 try simp only [Act.put, iT, iZ, iS]
 refine nextS 5 (by kernel_rfl) (by rfl) (fun o ho K hK => ?_)
 simp only [gT, gS, gZ, sI] at ho; subst ho
 go_simp
 refine hK.out _ _ ⟨(Shp.rd_far _ _ _ _ (by simp only; omega)).trans q3, (World.cell?_of_block (heap_setRow _ _ _ _ (by simp only; omega))).trans q4⟩ (fun _ => ?_)
 clear hK K
 try simp only [Act.put, iT, iZ, iS]
 refine takeS 6 (some 5) ?vq6 (by kernel_rfl) (by kernel_rfl) (by kernel_rfl) (by kernel_rfl) (fun _ _ _ h => h) (by rfl) ?hyq6 (by assumption) ?restq6
 case hyq6 => (intro o ho W hW; simp only [gT, gS, gZ, sI] at ho; subst ho; (try dsimp only at hW); go_simp; try rfl)
 try simp only [Act.put, iT, iZ, iS]
 refine wpAnyH_done (by kernel_rfl) ?_ _
 refine NoPanic.normal ?_
 have r9 : rSh.rd (W2.drew.setRow w.heap.size (rSh.v (D.seen l t).r)) ⟨w.heap.size, 0, none⟩ = some (D.seen l t).r := Shp.rd_set (S := rSh) _ _ _ f3
 go_wp2
 refine bodyPost_ret (v := .tuple #[.agg (rSh.v (D.seen l t).r), .bool (!(D.seen l t).d)]) (by rw [results_cell_tmp rfl]; simp [asAddr, Result.andThen, lvr_ofh r9]) rfl ⟨rfl, bel_setRow hZ.out.drew (Nat.le_refl _) _⟩
end Go.Proofs.YtjlaffgbmcpldaaGreatDoor
