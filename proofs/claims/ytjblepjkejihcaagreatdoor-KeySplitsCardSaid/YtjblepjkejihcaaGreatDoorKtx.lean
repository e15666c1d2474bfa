/-
  A key's text.
-/
import Derived.Test.YtjblepjkejihcaaGreatDoorKrt
import Derived.Test.YtjblepjkejihcaaGreatDoorGg
import Derived.Test.YtjblepjkejihcaaGreatDoorGe
import Derived.Test.YtjblepjkejihcaaGreatDoorGl
import Derived.Test.YtjblepjkejihcaaGreatDoorTpw
set_option linter.unusedVariables false
set_option linter.unusedSimpArgs false
set_option maxRecDepth 100000
namespace Go.Proofs.YtjblepjkejihcaaGreatDoor
open Go.RowKit
attribute [local go_sem ↓] Go.wp_at_zero Go.wp_at_succ ld_k lv_k st_k eq_k ne_k bd_k ld_b lv_b st_b eq_b ne_b bd_25 ld_r lv_r st_rk eq_rk ne_rk bd_r ld_p lv_p st_px bd_p Nm.ld_a Nm.ld_n Nm.st_a Nm.st_n Nm.eq_a Nm.eq_n Nm.ne_a Nm.ne_n Nm.lv_a Nm.lv_n ld_a ld_n st_a st_n eq_a eq_n ne_a ne_n lv_a lv_n
attribute [local go_sem] run_ldk run_lvk run_stk run_eqk run_nek run_bdk_z run_ldb run_lvb run_stb run_eqb run_neb run_ldr run_lvr run_strk run_eqrk run_nerk run_bdr_z run_ldp run_lvp run_stpx Nm.run_ld_a Nm.run_ld_n Nm.run_st_n Nm.run_eq_a Nm.run_eq_n Nm.run_ne_a Nm.run_ne_n Nm.run_lv_a Nm.run_lv_n Nm.rd_new Nm.rd_old Nm.rd_drew Nm.rd_drewN run_ld_a run_ld_n run_sw_a run_sw_n run_eq_a run_eq_n run_ne_a run_ne_n run_lv_a run_lv_n st_z ne_z eq_z rd_new rd_old rd_drew rd_drewN Shp.rd_new Shp.rd_old Shp.rd_drew Shp.rd_drewN Shp.rd_set Shp.tn_new Shp.tn_old Shp.tn_drew Shp.tn_drewN setRow_alloc run_stn3 run_stt15

theorem sown_two (w : World) (base g : Nat) (a b : ByteArray) (hg : g = w.heap.size) (hb : base ≤ w.heap.size) : SOwn base (w.alloc (.cells #[.string a, .string b] 9)) (some ⟨g, 0, none⟩) 2 2 [a, b] := by
  subst hg
  exact ⟨⟨rfl, .inr ⟨_, 2, #[.string a, .string b], rfl, hb, heap_alloc_new w _, by omega, by decide, rfl, rfl⟩⟩, by simp; omega⟩
theorem D.tx_eq (x : D.Tg) : D.tx x = D.tx' x := rfl
theorem dig_len (n : Nat) : (D.dig n).length ≤ 2 := by unfold D.dig; split <;> simp
theorem txt_len' (x : Nm.D.Nm) : (Nm.D.txt x).length ≤ 12 := by
  unfold Nm.D.txt
  split
  · have := Nm.D.hd_le x.l; rw [x.len] at this; exact this
  · simp
theorem tx_len' (x : D.Tg) : (D.tx' x).length ≤ 20 := by
  unfold D.tx'
  split
  · exact spell_len2 x
  · simp
theorem ns_of {l : List Nat} (h : ∀ c ∈ l, c < 256) : D.ns (D.sb l) = l := D.ns_sb h
theorem wrap_small {n m : Nat} (h : n < m) (hm : m ≤ 256 := by decide) : IntKind.i64.wrap (n : Int) = n := by
  simp [IntKind.wrap, IntKind.bits, IntKind.signed]
  omega
/-- What a walk knows of a key that is right. -/
structure KR (x : D.Ky) : Prop where
  p : x.p < 4
  a : x.a < 16
  k : 1 ≤ x.k ∧ x.k ≤ 6
theorem kr_of {x : D.Ky} (h : D.kright x = true) : KR x := by
  simp only [D.kright, decide_eq_true_eq] at h
  obtain ⟨h1, h2, h3, h4, h5⟩ := D.err_ok h.1
  have ha := D.ats_le x.k
  refine ⟨by omega, ?_, by omega⟩
  have e3 : (D.mkI x.k x.p x.a x.n x.t).a = if 0 < D.ats x.k then (x.a : Int).toNat else 0 := by
    rw [D.mkI, D.mkK_a]
    split
    · have := h3 ‹_›; omega
    · omega
  rw [h.2] at e3
  split at e3
  · have := h3 ‹_›; omega
  · omega

set_option maxHeartbeats 1000000 in
theorem ktext_no (x : D.Ky) (w : World) (h : D.kright x = false) : Calls Tryz.prog 18 #[.agg (kS.v x)] w fun e w' => e = .returned (.string ⟨#[]⟩) ∧ Below w.heap.size w w' := by
  have f0 := Shp.rd_new (S := kS) w _ 33 x rfl
  have cR := keyright_any x
  rw [h] at cR
  have CR := Lib.hid cR
  clear cR h
  go_enter Tryz.func18, Tryz.ntmps18
  go_wp2_with (go_at_call 13; (with_reducible refine (CR.out _).mono ?_); rintro e w1 ⟨rfl, b1⟩)
  go_ret
  exact ⟨by rfl, below_up (below_alloc_ _ _) (by simp) b1⟩
set_option maxHeartbeats 8000000 in
theorem ktext_1 (x : D.Ky) (w : World) (h : D.kright x = true) (hk : x.k = 1) : Calls Tryz.prog 18 #[.agg (kS.v x)] w fun e w' => e = .returned (.string (D.sb (D.jn ([D.sb [112], D.sb (D.dig x.p)].map D.ns)))) ∧ Below w.heap.size w w' := by
  have hR := kr_of h
  have l1 : (x.p : Int) < 256 := by have := hR.p; omega
  have l2 : (x.a : Int) < 256 := by have := hR.a; omega
  have hns : (D.jn ([D.sb [112], D.sb (D.dig x.p)].map D.ns)).length ≤ 100 := by
    have g1 := dig_len x.p
    have g2 := dig_len x.a
    have g3 := txt_len' x.n
    have g4 := tx_len' x.t
    have i1 : D.ns (D.sb (D.dig x.p)) = D.dig x.p := ns_of (D.dig_lt (by have := hR.p; omega))
    have i2 : D.ns (D.sb (D.dig x.a)) = D.dig x.a := ns_of (D.dig_lt (by have := hR.a; omega))
    have i3 : D.ns (Nm.ts x.n) = Nm.D.txt x.n := ns_of D.ntx_lt
    have i4 : D.ns (D.sb (D.tx x.t)) = D.tx' x.t := ns_of D.tx_lt
    have i5 : D.ns (D.sb [112]) = [112] := rfl
    simp only [List.map_cons, List.map_nil, i1, i2, i3, i4, i5, D.jn, List.length_append, List.length_cons, List.length_nil]
    omega
  have hwp : IntKind.i64.wrap (x.p : Int) = x.p := wrap_small hR.p
  have f0 := Shp.rd_new (S := kS) w _ 33 x rfl
  have cR := keyright_any x
  rw [h] at cR
  have CR := Lib.hid cR
  have CU := Lib.hid (fun w => (show Calls Tryz.prog 33 #[.int .i64 1] w fun e w' => e = .returned (.tuple #[.agg #[.int .i64 0, .bool false, .bool false], .bool true]) ∧ Below w.heap.size w w' from useOf_any 1 w))
  have CI := Lib.hid (fun w => itoa_any x.p (by have := hR.p; omega) w)
  have CA := Lib.hid (fun w => itoa_any x.a (by have := hR.a; omega) w)
  have CN := Lib.hid (fun w => Nm.text_any x.n w)
  have CT := Lib.hid (fun w => text_any x.t w)
  clear cR h hR
  go_enter Tryz.func18, Tryz.ntmps18
  go_wp2_with (go_at_call 13; (with_reducible refine (CR.out _).mono ?_); rintro e w1 ⟨rfl, b1⟩; have f1 := Shp.rd_on f0 b1; have c1 := (kf0 f1).1; rw [hk] at c1; have y1 : ((1 : Nat) : Int) = 1 := rfl; rw [y1] at c1)
  have z1 : Below w.heap.size w w1 := below_up (below_alloc_ _ _) (by simp) b1
  have s1 : w.heap.size < w1.heap.size := by have := b1.size; simp at this; omega
  clear b1 f0
  go_wp2_with (go_at_call 33; (with_reducible refine (CU.out _).mono ?_); rintro e w2 ⟨rfl, b2⟩)
  obtain ⟨W, hW⟩ : ∃ W, w2.alloc (.cells #[.int .i64 0, .bool false, .bool false] 75) = W := ⟨_, rfl⟩
  have fb : kS.rd W ⟨w.heap.size, 0, none⟩ = some x := by rw [← hW]; exact Shp.rd_on (Shp.rd_on f1 b2) (below_alloc_ _ _)
  have UB := Blk.new w2 75 #[.int .i64 0, .bool false, .bool false]
  rw [hW] at UB
  have zW : Below w.heap.size w W := by rw [← hW]; exact (below_up z1 z1.size b2).alloc (by have := z1.size; have := b2.size; omega) _
  try rw [hW]
  clear hW b2 z1 f1 c1 s1
  obtain ⟨m, hm⟩ : ∃ m, w2.heap.size = m := ⟨_, rfl⟩
  rw [hm] at UB
  rw [hm]
  clear hm
  have zd : Below W.heap.size W W.drew := (Below.refl _ _).drew
  refine wp_region_noPanic ?_
  refine wp_region_held_drew (S := fun V => Below W.heap.size W V) (by kernel_rfl) zd (fun _ => ?_)
  refine takeS 0 (some 16) ?va0 (by kernel_rfl) (by kernel_rfl) (by kernel_rfl) (by kernel_rfl) (fun _ _ _ h => h) (by rfl) ?hya0 zd ?resta0
  case hya0 => (intro o ho W hW; simp only [List.getElem?_toArray, List.getElem?_cons_succ, List.getElem?_cons_zero, Option.some.injEq] at ho; subst ho; (try dsimp only at hW); have ff := Shp.rd_on fb hW; obtain ⟨c0, c1, c2, c3, c4⟩ := kf0 ff; rw [hk] at c0; rw [show ((1 : Nat) : Int) = 1 from rfl] at c0; go_simp; try rfl)
  try simp only [Act.put, List.setIfInBounds_toArray, List.set_cons_zero, List.set_cons_succ]
  refine takeS 1 (some 17) ?va1 (by kernel_rfl) (by kernel_rfl) (by kernel_rfl) (by kernel_rfl) (fun _ _ _ h => h) (by rfl) ?hya1 zd ?resta1
  case hya1 => (intro o ho W hW; simp only [List.getElem?_toArray, List.getElem?_cons_succ, List.getElem?_cons_zero, Option.some.injEq] at ho; subst ho; (try dsimp only at hW); have ff := Shp.rd_on fb hW; obtain ⟨c0, c1, c2, c3, c4⟩ := kf0 ff; rw [hk] at c0; rw [show ((1 : Nat) : Int) = 1 from rfl] at c0; go_simp; try rfl)
  try simp only [Act.put, List.setIfInBounds_toArray, List.set_cons_zero, List.set_cons_succ]
  refine takeS 2 (some 18) (.int .u8 0) (by kernel_rfl) (by kernel_rfl) (by kernel_rfl) (by kernel_rfl) (fun _ _ _ h => h) (by rfl) ?hya2 zd ?resta2
  case hya2 => (intro o ho W hW; simp only [List.getElem?_toArray, List.getElem?_cons_succ, List.getElem?_cons_zero, Option.some.injEq] at ho; subst ho; (try dsimp only at hW); have ff := Shp.rd_on fb hW; obtain ⟨c0, c1, c2, c3, c4⟩ := kf0 ff; rw [hk] at c0; rw [show ((1 : Nat) : Int) = 1 from rfl] at c0; go_simp; (first | done | rfl | (rw [hwp])))
  try simp only [Act.put, List.setIfInBounds_toArray, List.set_cons_zero, List.set_cons_succ]
  refine takeS 3 (some 19) ?va3 (by kernel_rfl) (by kernel_rfl) (by kernel_rfl) (by kernel_rfl) (fun _ _ _ h => h) (by rfl) ?hya3 zd ?resta3
  case hya3 => (intro o ho W hW; simp only [List.getElem?_toArray, List.getElem?_cons_succ, List.getElem?_cons_zero, Option.some.injEq] at ho; subst ho; (try dsimp only at hW); have ff := Shp.rd_on fb hW; obtain ⟨c0, c1, c2, c3, c4⟩ := kf0 ff; rw [hk] at c0; rw [show ((1 : Nat) : Int) = 1 from rfl] at c0; go_simp; try rfl)
  try simp only [Act.put, List.setIfInBounds_toArray, List.set_cons_zero, List.set_cons_succ]
  refine takeS 4 (some 20) ?va4 (by kernel_rfl) (by kernel_rfl) (by kernel_rfl) (by kernel_rfl) (fun _ _ _ h => h) (by rfl) ?hya4 zd ?resta4
  case hya4 => (intro o ho W hW; simp only [List.getElem?_toArray, List.getElem?_cons_succ, List.getElem?_cons_zero, Option.some.injEq] at ho; subst ho; (try dsimp only at hW); have ff := Shp.rd_on fb hW; obtain ⟨c0, c1, c2, c3, c4⟩ := kf0 ff; rw [hk] at c0; rw [show ((1 : Nat) : Int) = 1 from rfl] at c0; go_simp; try rfl)
  try simp only [Act.put, List.setIfInBounds_toArray, List.set_cons_zero, List.set_cons_succ]
  refine takeS 5 (some 21) (.string (D.sb [112])) (by kernel_rfl) (by kernel_rfl) (by kernel_rfl) (by kernel_rfl) (fun _ _ _ h => h) (by rfl) ?hya5 zd ?resta5
  case hya5 => (intro o ho W hW; simp only [List.getElem?_toArray, List.getElem?_cons_succ, List.getElem?_cons_zero, Option.some.injEq] at ho; subst ho; (try dsimp only at hW); have ff := Shp.rd_on fb hW; obtain ⟨c0, c1, c2, c3, c4⟩ := kf0 ff; rw [hk] at c0; rw [show ((1 : Nat) : Int) = 1 from rfl] at c0; go_simp; (first | done | rfl | (rw [hwp])))
  try simp only [Act.put, List.setIfInBounds_toArray, List.set_cons_zero, List.set_cons_succ]
  refine takeS 6 (some 22) ?va6 (by kernel_rfl) (by kernel_rfl) (by kernel_rfl) (by kernel_rfl) (fun _ _ _ h => h) (by rfl) ?hya6 zd ?resta6
  case hya6 => (intro o ho W hW; simp only [List.getElem?_toArray, List.getElem?_cons_succ, List.getElem?_cons_zero, Option.some.injEq] at ho; subst ho; (try dsimp only at hW); have ff := Shp.rd_on fb hW; obtain ⟨c0, c1, c2, c3, c4⟩ := kf0 ff; rw [hk] at c0; rw [show ((1 : Nat) : Int) = 1 from rfl] at c0; go_simp; try rfl)
  try simp only [Act.put, List.setIfInBounds_toArray, List.set_cons_zero, List.set_cons_succ]
  refine takeS 7 (some 23) ?va7 (by kernel_rfl) (by kernel_rfl) (by kernel_rfl) (by kernel_rfl) (fun _ _ _ h => h) (by rfl) ?hya7 zd ?resta7
  case hya7 => (intro o ho W hW; simp only [List.getElem?_toArray, List.getElem?_cons_succ, List.getElem?_cons_zero, Option.some.injEq] at ho; subst ho; (try dsimp only at hW); have ff := Shp.rd_on fb hW; obtain ⟨c0, c1, c2, c3, c4⟩ := kf0 ff; rw [hk] at c0; rw [show ((1 : Nat) : Int) = 1 from rfl] at c0; go_simp; try rfl)
  try simp only [Act.put, List.setIfInBounds_toArray, List.set_cons_zero, List.set_cons_succ]
  refine takeS 8 (some 24) (.int .i64 (x.p : Int)) (by kernel_rfl) (by kernel_rfl) (by kernel_rfl) (by kernel_rfl) (fun _ _ _ h => h) (by rfl) ?hya8 zd ?resta8
  case hya8 => (intro o ho W hW; simp only [List.getElem?_toArray, List.getElem?_cons_succ, List.getElem?_cons_zero, Option.some.injEq] at ho; subst ho; (try dsimp only at hW); have ff := Shp.rd_on fb hW; obtain ⟨c0, c1, c2, c3, c4⟩ := kf0 ff; rw [hk] at c0; rw [show ((1 : Nat) : Int) = 1 from rfl] at c0; go_simp; (first | done | rfl | (rw [hwp])))
  try simp only [Act.put, List.setIfInBounds_toArray, List.set_cons_zero, List.set_cons_succ]
  refine nextS 9 (by kernel_rfl) (by rfl) (fun o ho K hK => ?_)
  simp only [List.getElem?_toArray, List.getElem?_cons_succ, List.getElem?_cons_zero, Option.some.injEq] at ho; subst ho
  go_simp
  (go_at_call 40; (with_reducible refine (CI.out _).mono ?_); rintro e v1 ⟨rfl, rfl⟩)
  refine hK.out _ _ zd (fun _ => ?_)
  clear hK K
  try simp only [Act.put, List.setIfInBounds_toArray, List.set_cons_zero, List.set_cons_succ]
  refine nextS 10 (by kernel_rfl) (by rfl) (fun o ho K hK => ?_)
  simp only [List.getElem?_toArray, List.getElem?_cons_succ, List.getElem?_cons_zero, Option.some.injEq] at ho; subst ho
  go_simp
  refine hK.out _ _ (zd.alloc zd.size _) (fun _ => ?_)
  clear hK K
  try simp only [Act.put, List.setIfInBounds_toArray, List.set_cons_zero, List.set_cons_succ]
  refine takeS 11 (some 5) ?vb11 (by kernel_rfl) (by kernel_rfl) (by kernel_rfl) (by kernel_rfl) (fun _ _ _ h => h) (by rfl) ?hyb11 (zd.alloc zd.size _) ?restb11
  case hyb11 => (intro o ho W hW; simp only [List.getElem?_toArray, List.getElem?_cons_succ, List.getElem?_cons_zero, Option.some.injEq] at ho; subst ho; (try dsimp only at hW); skip; go_simp; try rfl)
  try simp only [Act.put, List.setIfInBounds_toArray, List.set_cons_zero, List.set_cons_succ]
  refine wpAnyH_done (by kernel_rfl) ?_ _
  refine NoPanic.normal ?_
  have ho := sown_two W.drew W.heap.size W.heap.size (D.sb [112]) (D.sb (D.dig x.p)) rfl (Nat.le_refl _)
  have zo := zd.alloc zd.size (.cells #[.string (D.sb [112]), .string (D.sb (D.dig x.p))] 9)
  have eL : D.sb [112] = ⟨#[112]⟩ := rfl
  have bo : ∃ V, V = W.drew.alloc (.cells #[.string (D.sb [112]), .string (D.sb (D.dig x.p))] 9) := ⟨_, rfl⟩
  obtain ⟨V, hV⟩ := bo
  rw [← hV] at ho zo
  have uo := UB.on zo
  have u0 := uo.c 0
  have u1 := uo.c 1
  have u2 := uo.c 2
  simp at u0 u1 u2
  obtain ⟨c0, c1, c2, c3, c4⟩ := kf0 (Shp.rd_on fb zo)
  have hV1 : W.drew.alloc (.cells #[.string ⟨#[112]⟩, .string (D.sb (D.dig x.p))] 9) = V := hV.symm
  have hV2 : (W.alloc (.cells #[.string ⟨#[112]⟩, .string (D.sb (D.dig x.p))] 9)).drew = V := hV.symm
  try rw [← hV]
  try rw [hV1]
  try rw [hV2]
  clear hV
  go_wp2_with fail
  obtain ⟨g, hA, hg, hcell⟩ := ho.at_ (by omega)
  obtain rfl : W.heap.size = g := by injection hA with hA; injection hA
  have cJ := kjoin_any W.heap.size 2 [D.sb [112], D.sb (D.dig x.p)] _ (fun j y hy => hcell j y hy) hg (by simp) (by simp) hns
  go_wp2_with (go_at_call 43; (with_reducible refine Calls.mono cJ ?_); rintro e w9 ⟨rfl, b9⟩)
  go_ret
  exact ⟨rfl, below_up zW zW.size (below_up zo zo.size b9)⟩
set_option maxHeartbeats 8000000 in
theorem ktext_2 (x : D.Ky) (w : World) (h : D.kright x = true) (hk : x.k = 2) : Calls Tryz.prog 18 #[.agg (kS.v x)] w fun e w' => e = .returned (.string (D.sb (D.jn ([D.sb [103], D.sb (D.dig x.p), D.sb (D.dig x.a)].map D.ns)))) ∧ Below w.heap.size w w' := by
  have hR := kr_of h
  have l1 : (x.p : Int) < 256 := by have := hR.p; omega
  have l2 : (x.a : Int) < 256 := by have := hR.a; omega
  have hns : (D.jn ([D.sb [103], D.sb (D.dig x.p), D.sb (D.dig x.a)].map D.ns)).length ≤ 100 := by
    have g1 := dig_len x.p
    have g2 := dig_len x.a
    have g3 := txt_len' x.n
    have g4 := tx_len' x.t
    have i1 : D.ns (D.sb (D.dig x.p)) = D.dig x.p := ns_of (D.dig_lt (by have := hR.p; omega))
    have i2 : D.ns (D.sb (D.dig x.a)) = D.dig x.a := ns_of (D.dig_lt (by have := hR.a; omega))
    have i3 : D.ns (Nm.ts x.n) = Nm.D.txt x.n := ns_of D.ntx_lt
    have i4 : D.ns (D.sb (D.tx x.t)) = D.tx' x.t := ns_of D.tx_lt
    have i5 : D.ns (D.sb [103]) = [103] := rfl
    simp only [List.map_cons, List.map_nil, i1, i2, i3, i4, i5, D.jn, List.length_append, List.length_cons, List.length_nil]
    omega
  have hwp : IntKind.i64.wrap (x.p : Int) = x.p := wrap_small hR.p
  have f0 := Shp.rd_new (S := kS) w _ 33 x rfl
  have cR := keyright_any x
  rw [h] at cR
  have CR := Lib.hid cR
  have CU := Lib.hid (fun w => (show Calls Tryz.prog 33 #[.int .i64 2] w fun e w' => e = .returned (.tuple #[.agg #[.int .i64 16, .bool false, .bool false], .bool true]) ∧ Below w.heap.size w w' from useOf_any 2 w))
  have CI := Lib.hid (fun w => itoa_any x.p (by have := hR.p; omega) w)
  have CA := Lib.hid (fun w => itoa_any x.a (by have := hR.a; omega) w)
  have CN := Lib.hid (fun w => Nm.text_any x.n w)
  have CT := Lib.hid (fun w => text_any x.t w)
  clear cR h hR
  go_enter Tryz.func18, Tryz.ntmps18
  go_wp2_with (go_at_call 13; (with_reducible refine (CR.out _).mono ?_); rintro e w1 ⟨rfl, b1⟩; have f1 := Shp.rd_on f0 b1; have c1 := (kf0 f1).1; rw [hk] at c1; have y1 : ((2 : Nat) : Int) = 2 := rfl; rw [y1] at c1)
  have z1 : Below w.heap.size w w1 := below_up (below_alloc_ _ _) (by simp) b1
  have s1 : w.heap.size < w1.heap.size := by have := b1.size; simp at this; omega
  clear b1 f0
  go_wp2_with (go_at_call 33; (with_reducible refine (CU.out _).mono ?_); rintro e w2 ⟨rfl, b2⟩)
  obtain ⟨W, hW⟩ : ∃ W, w2.alloc (.cells #[.int .i64 16, .bool false, .bool false] 75) = W := ⟨_, rfl⟩
  have fb : kS.rd W ⟨w.heap.size, 0, none⟩ = some x := by rw [← hW]; exact Shp.rd_on (Shp.rd_on f1 b2) (below_alloc_ _ _)
  have UB := Blk.new w2 75 #[.int .i64 16, .bool false, .bool false]
  rw [hW] at UB
  have zW : Below w.heap.size w W := by rw [← hW]; exact (below_up z1 z1.size b2).alloc (by have := z1.size; have := b2.size; omega) _
  try rw [hW]
  clear hW b2 z1 f1 c1 s1
  obtain ⟨m, hm⟩ : ∃ m, w2.heap.size = m := ⟨_, rfl⟩
  rw [hm] at UB
  rw [hm]
  clear hm
  have zd : Below W.heap.size W W.drew := (Below.refl _ _).drew
  refine wp_region_noPanic ?_
  refine wp_region_held_drew (S := fun V => Below W.heap.size W V) (by kernel_rfl) zd (fun _ => ?_)
  refine takeS 0 (some 16) ?va0 (by kernel_rfl) (by kernel_rfl) (by kernel_rfl) (by kernel_rfl) (fun _ _ _ h => h) (by rfl) ?hya0 zd ?resta0
  case hya0 => (intro o ho W hW; simp only [List.getElem?_toArray, List.getElem?_cons_succ, List.getElem?_cons_zero, Option.some.injEq] at ho; subst ho; (try dsimp only at hW); have ff := Shp.rd_on fb hW; obtain ⟨c0, c1, c2, c3, c4⟩ := kf0 ff; rw [hk] at c0; rw [show ((2 : Nat) : Int) = 2 from rfl] at c0; go_simp; try rfl)
  try simp only [Act.put, List.setIfInBounds_toArray, List.set_cons_zero, List.set_cons_succ]
  refine takeS 1 (some 17) ?va1 (by kernel_rfl) (by kernel_rfl) (by kernel_rfl) (by kernel_rfl) (fun _ _ _ h => h) (by rfl) ?hya1 zd ?resta1
  case hya1 => (intro o ho W hW; simp only [List.getElem?_toArray, List.getElem?_cons_succ, List.getElem?_cons_zero, Option.some.injEq] at ho; subst ho; (try dsimp only at hW); have ff := Shp.rd_on fb hW; obtain ⟨c0, c1, c2, c3, c4⟩ := kf0 ff; rw [hk] at c0; rw [show ((2 : Nat) : Int) = 2 from rfl] at c0; go_simp; try rfl)
  try simp only [Act.put, List.setIfInBounds_toArray, List.set_cons_zero, List.set_cons_succ]
  refine takeS 2 (some 18) (.int .u8 1) (by kernel_rfl) (by kernel_rfl) (by kernel_rfl) (by kernel_rfl) (fun _ _ _ h => h) (by rfl) ?hya2 zd ?resta2
  case hya2 => (intro o ho W hW; simp only [List.getElem?_toArray, List.getElem?_cons_succ, List.getElem?_cons_zero, Option.some.injEq] at ho; subst ho; (try dsimp only at hW); have ff := Shp.rd_on fb hW; obtain ⟨c0, c1, c2, c3, c4⟩ := kf0 ff; rw [hk] at c0; rw [show ((2 : Nat) : Int) = 2 from rfl] at c0; go_simp; (first | done | rfl | (rw [hwp])))
  try simp only [Act.put, List.setIfInBounds_toArray, List.set_cons_zero, List.set_cons_succ]
  refine takeS 3 (some 19) ?va3 (by kernel_rfl) (by kernel_rfl) (by kernel_rfl) (by kernel_rfl) (fun _ _ _ h => h) (by rfl) ?hya3 zd ?resta3
  case hya3 => (intro o ho W hW; simp only [List.getElem?_toArray, List.getElem?_cons_succ, List.getElem?_cons_zero, Option.some.injEq] at ho; subst ho; (try dsimp only at hW); have ff := Shp.rd_on fb hW; obtain ⟨c0, c1, c2, c3, c4⟩ := kf0 ff; rw [hk] at c0; rw [show ((2 : Nat) : Int) = 2 from rfl] at c0; go_simp; try rfl)
  try simp only [Act.put, List.setIfInBounds_toArray, List.set_cons_zero, List.set_cons_succ]
  refine takeS 4 (some 20) ?va4 (by kernel_rfl) (by kernel_rfl) (by kernel_rfl) (by kernel_rfl) (fun _ _ _ h => h) (by rfl) ?hya4 zd ?resta4
  case hya4 => (intro o ho W hW; simp only [List.getElem?_toArray, List.getElem?_cons_succ, List.getElem?_cons_zero, Option.some.injEq] at ho; subst ho; (try dsimp only at hW); have ff := Shp.rd_on fb hW; obtain ⟨c0, c1, c2, c3, c4⟩ := kf0 ff; rw [hk] at c0; rw [show ((2 : Nat) : Int) = 2 from rfl] at c0; go_simp; try rfl)
  try simp only [Act.put, List.setIfInBounds_toArray, List.set_cons_zero, List.set_cons_succ]
  refine takeS 5 (some 21) (.string (D.sb [103])) (by kernel_rfl) (by kernel_rfl) (by kernel_rfl) (by kernel_rfl) (fun _ _ _ h => h) (by rfl) ?hya5 zd ?resta5
  case hya5 => (intro o ho W hW; simp only [List.getElem?_toArray, List.getElem?_cons_succ, List.getElem?_cons_zero, Option.some.injEq] at ho; subst ho; (try dsimp only at hW); have ff := Shp.rd_on fb hW; obtain ⟨c0, c1, c2, c3, c4⟩ := kf0 ff; rw [hk] at c0; rw [show ((2 : Nat) : Int) = 2 from rfl] at c0; go_simp; (first | done | rfl | (rw [hwp])))
  try simp only [Act.put, List.setIfInBounds_toArray, List.set_cons_zero, List.set_cons_succ]
  refine takeS 6 (some 22) ?va6 (by kernel_rfl) (by kernel_rfl) (by kernel_rfl) (by kernel_rfl) (fun _ _ _ h => h) (by rfl) ?hya6 zd ?resta6
  case hya6 => (intro o ho W hW; simp only [List.getElem?_toArray, List.getElem?_cons_succ, List.getElem?_cons_zero, Option.some.injEq] at ho; subst ho; (try dsimp only at hW); have ff := Shp.rd_on fb hW; obtain ⟨c0, c1, c2, c3, c4⟩ := kf0 ff; rw [hk] at c0; rw [show ((2 : Nat) : Int) = 2 from rfl] at c0; go_simp; try rfl)
  try simp only [Act.put, List.setIfInBounds_toArray, List.set_cons_zero, List.set_cons_succ]
  refine takeS 7 (some 23) ?va7 (by kernel_rfl) (by kernel_rfl) (by kernel_rfl) (by kernel_rfl) (fun _ _ _ h => h) (by rfl) ?hya7 zd ?resta7
  case hya7 => (intro o ho W hW; simp only [List.getElem?_toArray, List.getElem?_cons_succ, List.getElem?_cons_zero, Option.some.injEq] at ho; subst ho; (try dsimp only at hW); have ff := Shp.rd_on fb hW; obtain ⟨c0, c1, c2, c3, c4⟩ := kf0 ff; rw [hk] at c0; rw [show ((2 : Nat) : Int) = 2 from rfl] at c0; go_simp; try rfl)
  try simp only [Act.put, List.setIfInBounds_toArray, List.set_cons_zero, List.set_cons_succ]
  refine takeS 8 (some 24) (.int .i64 (x.p : Int)) (by kernel_rfl) (by kernel_rfl) (by kernel_rfl) (by kernel_rfl) (fun _ _ _ h => h) (by rfl) ?hya8 zd ?resta8
  case hya8 => (intro o ho W hW; simp only [List.getElem?_toArray, List.getElem?_cons_succ, List.getElem?_cons_zero, Option.some.injEq] at ho; subst ho; (try dsimp only at hW); have ff := Shp.rd_on fb hW; obtain ⟨c0, c1, c2, c3, c4⟩ := kf0 ff; rw [hk] at c0; rw [show ((2 : Nat) : Int) = 2 from rfl] at c0; go_simp; (first | done | rfl | (rw [hwp])))
  try simp only [Act.put, List.setIfInBounds_toArray, List.set_cons_zero, List.set_cons_succ]
  refine nextS 9 (by kernel_rfl) (by rfl) (fun o ho K hK => ?_)
  simp only [List.getElem?_toArray, List.getElem?_cons_succ, List.getElem?_cons_zero, Option.some.injEq] at ho; subst ho
  go_simp
  (go_at_call 40; (with_reducible refine (CI.out _).mono ?_); rintro e v1 ⟨rfl, rfl⟩)
  refine hK.out _ _ zd (fun _ => ?_)
  clear hK K
  try simp only [Act.put, List.setIfInBounds_toArray, List.set_cons_zero, List.set_cons_succ]
  refine nextS 10 (by kernel_rfl) (by rfl) (fun o ho K hK => ?_)
  simp only [List.getElem?_toArray, List.getElem?_cons_succ, List.getElem?_cons_zero, Option.some.injEq] at ho; subst ho
  go_simp
  refine hK.out _ _ (zd.alloc zd.size _) (fun _ => ?_)
  clear hK K
  try simp only [Act.put, List.setIfInBounds_toArray, List.set_cons_zero, List.set_cons_succ]
  refine takeS 11 (some 5) ?vb11 (by kernel_rfl) (by kernel_rfl) (by kernel_rfl) (by kernel_rfl) (fun _ _ _ h => h) (by rfl) ?hyb11 (zd.alloc zd.size _) ?restb11
  case hyb11 => (intro o ho W hW; simp only [List.getElem?_toArray, List.getElem?_cons_succ, List.getElem?_cons_zero, Option.some.injEq] at ho; subst ho; (try dsimp only at hW); skip; go_simp; try rfl)
  try simp only [Act.put, List.setIfInBounds_toArray, List.set_cons_zero, List.set_cons_succ]
  refine wpAnyH_done (by kernel_rfl) ?_ _
  refine NoPanic.normal ?_
  have ho := sown_two W.drew W.heap.size W.heap.size (D.sb [103]) (D.sb (D.dig x.p)) rfl (Nat.le_refl _)
  have zo := zd.alloc zd.size (.cells #[.string (D.sb [103]), .string (D.sb (D.dig x.p))] 9)
  have eL : D.sb [103] = ⟨#[103]⟩ := rfl
  have bo : ∃ V, V = W.drew.alloc (.cells #[.string (D.sb [103]), .string (D.sb (D.dig x.p))] 9) := ⟨_, rfl⟩
  obtain ⟨V, hV⟩ := bo
  rw [← hV] at ho zo
  have uo := UB.on zo
  have u0 := uo.c 0
  have u1 := uo.c 1
  have u2 := uo.c 2
  simp at u0 u1 u2
  obtain ⟨c0, c1, c2, c3, c4⟩ := kf0 (Shp.rd_on fb zo)
  have hV1 : W.drew.alloc (.cells #[.string ⟨#[103]⟩, .string (D.sb (D.dig x.p))] 9) = V := hV.symm
  have hV2 : (W.alloc (.cells #[.string ⟨#[103]⟩, .string (D.sb (D.dig x.p))] 9)).drew = V := hV.symm
  try rw [← hV]
  try rw [hV1]
  try rw [hV2]
  clear hV
  go_wp2_with (first
    | (go_at_call 40; (with_reducible refine (CA.out _).mono ?_); rintro e v2 ⟨rfl, rfl⟩)
    | (at_builtin; (refine sapp _ rfl (.tmp 30) (.tmp 35) rfl rfl (ho.alloc _) rfl (cell_new_at _ _ _ _ (by simp)) (by omega) ?_); intro A3 q3 x3 ho3 hg3; have z3 := (zo.alloc zo.size _).grown hg3 (by have := zo.size; simp; omega) (fun k hk => ho.block_le k hk); have uo := UB.on z3; have u0 := uo.c 0; have u1 := uo.c 1; have u2 := uo.c 2; simp at u0 u1 u2; obtain ⟨c0, c1, c2, c3, c4⟩ := kf0 (Shp.rd_on fb z3)))
  obtain ⟨g, hA, hg, hcell⟩ := ho3.at_ (by omega)
  subst hA
  have cJ := kjoin_any g q3 [D.sb [103], D.sb (D.dig x.p), D.sb (D.dig x.a)] _ (fun j y hy => hcell j y hy) hg (by simp) (by have := ho3.cap; simp; omega) hns
  go_wp2_with (go_at_call 43; (with_reducible refine Calls.mono cJ ?_); rintro e w9 ⟨rfl, b9⟩)
  go_ret
  exact ⟨rfl, below_up zW zW.size (below_up z3 z3.size b9)⟩
set_option maxHeartbeats 8000000 in
theorem ktext_3 (x : D.Ky) (w : World) (h : D.kright x = true) (hk : x.k = 3) : Calls Tryz.prog 18 #[.agg (kS.v x)] w fun e w' => e = .returned (.string (D.sb (D.jn ([D.sb [108], D.sb (D.dig x.p), D.sb (D.tx x.t)].map D.ns)))) ∧ Below w.heap.size w w' := by
  have hR := kr_of h
  have l1 : (x.p : Int) < 256 := by have := hR.p; omega
  have l2 : (x.a : Int) < 256 := by have := hR.a; omega
  have hns : (D.jn ([D.sb [108], D.sb (D.dig x.p), D.sb (D.tx x.t)].map D.ns)).length ≤ 100 := by
    have g1 := dig_len x.p
    have g2 := dig_len x.a
    have g3 := txt_len' x.n
    have g4 := tx_len' x.t
    have i1 : D.ns (D.sb (D.dig x.p)) = D.dig x.p := ns_of (D.dig_lt (by have := hR.p; omega))
    have i2 : D.ns (D.sb (D.dig x.a)) = D.dig x.a := ns_of (D.dig_lt (by have := hR.a; omega))
    have i3 : D.ns (Nm.ts x.n) = Nm.D.txt x.n := ns_of D.ntx_lt
    have i4 : D.ns (D.sb (D.tx x.t)) = D.tx' x.t := ns_of D.tx_lt
    have i5 : D.ns (D.sb [108]) = [108] := rfl
    simp only [List.map_cons, List.map_nil, i1, i2, i3, i4, i5, D.jn, List.length_append, List.length_cons, List.length_nil]
    omega
  have hwp : IntKind.i64.wrap (x.p : Int) = x.p := wrap_small hR.p
  have f0 := Shp.rd_new (S := kS) w _ 33 x rfl
  have cR := keyright_any x
  rw [h] at cR
  have CR := Lib.hid cR
  have CU := Lib.hid (fun w => (show Calls Tryz.prog 33 #[.int .i64 3] w fun e w' => e = .returned (.tuple #[.agg #[.int .i64 0, .bool false, .bool true], .bool true]) ∧ Below w.heap.size w w' from useOf_any 3 w))
  have CI := Lib.hid (fun w => itoa_any x.p (by have := hR.p; omega) w)
  have CA := Lib.hid (fun w => itoa_any x.a (by have := hR.a; omega) w)
  have CN := Lib.hid (fun w => Nm.text_any x.n w)
  have CT := Lib.hid (fun w => text_any x.t w)
  clear cR h hR
  go_enter Tryz.func18, Tryz.ntmps18
  go_wp2_with (go_at_call 13; (with_reducible refine (CR.out _).mono ?_); rintro e w1 ⟨rfl, b1⟩; have f1 := Shp.rd_on f0 b1; have c1 := (kf0 f1).1; rw [hk] at c1; have y1 : ((3 : Nat) : Int) = 3 := rfl; rw [y1] at c1)
  have z1 : Below w.heap.size w w1 := below_up (below_alloc_ _ _) (by simp) b1
  have s1 : w.heap.size < w1.heap.size := by have := b1.size; simp at this; omega
  clear b1 f0
  go_wp2_with (go_at_call 33; (with_reducible refine (CU.out _).mono ?_); rintro e w2 ⟨rfl, b2⟩)
  obtain ⟨W, hW⟩ : ∃ W, w2.alloc (.cells #[.int .i64 0, .bool false, .bool true] 75) = W := ⟨_, rfl⟩
  have fb : kS.rd W ⟨w.heap.size, 0, none⟩ = some x := by rw [← hW]; exact Shp.rd_on (Shp.rd_on f1 b2) (below_alloc_ _ _)
  have UB := Blk.new w2 75 #[.int .i64 0, .bool false, .bool true]
  rw [hW] at UB
  have zW : Below w.heap.size w W := by rw [← hW]; exact (below_up z1 z1.size b2).alloc (by have := z1.size; have := b2.size; omega) _
  try rw [hW]
  clear hW b2 z1 f1 c1 s1
  obtain ⟨m, hm⟩ : ∃ m, w2.heap.size = m := ⟨_, rfl⟩
  rw [hm] at UB
  rw [hm]
  clear hm
  have zd : Below W.heap.size W W.drew := (Below.refl _ _).drew
  refine wp_region_noPanic ?_
  refine wp_region_held_drew (S := fun V => Below W.heap.size W V) (by kernel_rfl) zd (fun _ => ?_)
  refine takeS 0 (some 16) ?va0 (by kernel_rfl) (by kernel_rfl) (by kernel_rfl) (by kernel_rfl) (fun _ _ _ h => h) (by rfl) ?hya0 zd ?resta0
  case hya0 => (intro o ho W hW; simp only [List.getElem?_toArray, List.getElem?_cons_succ, List.getElem?_cons_zero, Option.some.injEq] at ho; subst ho; (try dsimp only at hW); have ff := Shp.rd_on fb hW; obtain ⟨c0, c1, c2, c3, c4⟩ := kf0 ff; rw [hk] at c0; rw [show ((3 : Nat) : Int) = 3 from rfl] at c0; go_simp; try rfl)
  try simp only [Act.put, List.setIfInBounds_toArray, List.set_cons_zero, List.set_cons_succ]
  refine takeS 1 (some 17) ?va1 (by kernel_rfl) (by kernel_rfl) (by kernel_rfl) (by kernel_rfl) (fun _ _ _ h => h) (by rfl) ?hya1 zd ?resta1
  case hya1 => (intro o ho W hW; simp only [List.getElem?_toArray, List.getElem?_cons_succ, List.getElem?_cons_zero, Option.some.injEq] at ho; subst ho; (try dsimp only at hW); have ff := Shp.rd_on fb hW; obtain ⟨c0, c1, c2, c3, c4⟩ := kf0 ff; rw [hk] at c0; rw [show ((3 : Nat) : Int) = 3 from rfl] at c0; go_simp; try rfl)
  try simp only [Act.put, List.setIfInBounds_toArray, List.set_cons_zero, List.set_cons_succ]
  refine takeS 2 (some 18) (.int .u8 2) (by kernel_rfl) (by kernel_rfl) (by kernel_rfl) (by kernel_rfl) (fun _ _ _ h => h) (by rfl) ?hya2 zd ?resta2
  case hya2 => (intro o ho W hW; simp only [List.getElem?_toArray, List.getElem?_cons_succ, List.getElem?_cons_zero, Option.some.injEq] at ho; subst ho; (try dsimp only at hW); have ff := Shp.rd_on fb hW; obtain ⟨c0, c1, c2, c3, c4⟩ := kf0 ff; rw [hk] at c0; rw [show ((3 : Nat) : Int) = 3 from rfl] at c0; go_simp; (first | done | rfl | (rw [hwp])))
  try simp only [Act.put, List.setIfInBounds_toArray, List.set_cons_zero, List.set_cons_succ]
  refine takeS 3 (some 19) ?va3 (by kernel_rfl) (by kernel_rfl) (by kernel_rfl) (by kernel_rfl) (fun _ _ _ h => h) (by rfl) ?hya3 zd ?resta3
  case hya3 => (intro o ho W hW; simp only [List.getElem?_toArray, List.getElem?_cons_succ, List.getElem?_cons_zero, Option.some.injEq] at ho; subst ho; (try dsimp only at hW); have ff := Shp.rd_on fb hW; obtain ⟨c0, c1, c2, c3, c4⟩ := kf0 ff; rw [hk] at c0; rw [show ((3 : Nat) : Int) = 3 from rfl] at c0; go_simp; try rfl)
  try simp only [Act.put, List.setIfInBounds_toArray, List.set_cons_zero, List.set_cons_succ]
  refine takeS 4 (some 20) ?va4 (by kernel_rfl) (by kernel_rfl) (by kernel_rfl) (by kernel_rfl) (fun _ _ _ h => h) (by rfl) ?hya4 zd ?resta4
  case hya4 => (intro o ho W hW; simp only [List.getElem?_toArray, List.getElem?_cons_succ, List.getElem?_cons_zero, Option.some.injEq] at ho; subst ho; (try dsimp only at hW); have ff := Shp.rd_on fb hW; obtain ⟨c0, c1, c2, c3, c4⟩ := kf0 ff; rw [hk] at c0; rw [show ((3 : Nat) : Int) = 3 from rfl] at c0; go_simp; try rfl)
  try simp only [Act.put, List.setIfInBounds_toArray, List.set_cons_zero, List.set_cons_succ]
  refine takeS 5 (some 21) (.string (D.sb [108])) (by kernel_rfl) (by kernel_rfl) (by kernel_rfl) (by kernel_rfl) (fun _ _ _ h => h) (by rfl) ?hya5 zd ?resta5
  case hya5 => (intro o ho W hW; simp only [List.getElem?_toArray, List.getElem?_cons_succ, List.getElem?_cons_zero, Option.some.injEq] at ho; subst ho; (try dsimp only at hW); have ff := Shp.rd_on fb hW; obtain ⟨c0, c1, c2, c3, c4⟩ := kf0 ff; rw [hk] at c0; rw [show ((3 : Nat) : Int) = 3 from rfl] at c0; go_simp; (first | done | rfl | (rw [hwp])))
  try simp only [Act.put, List.setIfInBounds_toArray, List.set_cons_zero, List.set_cons_succ]
  refine takeS 6 (some 22) ?va6 (by kernel_rfl) (by kernel_rfl) (by kernel_rfl) (by kernel_rfl) (fun _ _ _ h => h) (by rfl) ?hya6 zd ?resta6
  case hya6 => (intro o ho W hW; simp only [List.getElem?_toArray, List.getElem?_cons_succ, List.getElem?_cons_zero, Option.some.injEq] at ho; subst ho; (try dsimp only at hW); have ff := Shp.rd_on fb hW; obtain ⟨c0, c1, c2, c3, c4⟩ := kf0 ff; rw [hk] at c0; rw [show ((3 : Nat) : Int) = 3 from rfl] at c0; go_simp; try rfl)
  try simp only [Act.put, List.setIfInBounds_toArray, List.set_cons_zero, List.set_cons_succ]
  refine takeS 7 (some 23) ?va7 (by kernel_rfl) (by kernel_rfl) (by kernel_rfl) (by kernel_rfl) (fun _ _ _ h => h) (by rfl) ?hya7 zd ?resta7
  case hya7 => (intro o ho W hW; simp only [List.getElem?_toArray, List.getElem?_cons_succ, List.getElem?_cons_zero, Option.some.injEq] at ho; subst ho; (try dsimp only at hW); have ff := Shp.rd_on fb hW; obtain ⟨c0, c1, c2, c3, c4⟩ := kf0 ff; rw [hk] at c0; rw [show ((3 : Nat) : Int) = 3 from rfl] at c0; go_simp; try rfl)
  try simp only [Act.put, List.setIfInBounds_toArray, List.set_cons_zero, List.set_cons_succ]
  refine takeS 8 (some 24) (.int .i64 (x.p : Int)) (by kernel_rfl) (by kernel_rfl) (by kernel_rfl) (by kernel_rfl) (fun _ _ _ h => h) (by rfl) ?hya8 zd ?resta8
  case hya8 => (intro o ho W hW; simp only [List.getElem?_toArray, List.getElem?_cons_succ, List.getElem?_cons_zero, Option.some.injEq] at ho; subst ho; (try dsimp only at hW); have ff := Shp.rd_on fb hW; obtain ⟨c0, c1, c2, c3, c4⟩ := kf0 ff; rw [hk] at c0; rw [show ((3 : Nat) : Int) = 3 from rfl] at c0; go_simp; (first | done | rfl | (rw [hwp])))
  try simp only [Act.put, List.setIfInBounds_toArray, List.set_cons_zero, List.set_cons_succ]
  refine nextS 9 (by kernel_rfl) (by rfl) (fun o ho K hK => ?_)
  simp only [List.getElem?_toArray, List.getElem?_cons_succ, List.getElem?_cons_zero, Option.some.injEq] at ho; subst ho
  go_simp
  (go_at_call 40; (with_reducible refine (CI.out _).mono ?_); rintro e v1 ⟨rfl, rfl⟩)
  refine hK.out _ _ zd (fun _ => ?_)
  clear hK K
  try simp only [Act.put, List.setIfInBounds_toArray, List.set_cons_zero, List.set_cons_succ]
  refine nextS 10 (by kernel_rfl) (by rfl) (fun o ho K hK => ?_)
  simp only [List.getElem?_toArray, List.getElem?_cons_succ, List.getElem?_cons_zero, Option.some.injEq] at ho; subst ho
  go_simp
  refine hK.out _ _ (zd.alloc zd.size _) (fun _ => ?_)
  clear hK K
  try simp only [Act.put, List.setIfInBounds_toArray, List.set_cons_zero, List.set_cons_succ]
  refine takeS 11 (some 5) ?vb11 (by kernel_rfl) (by kernel_rfl) (by kernel_rfl) (by kernel_rfl) (fun _ _ _ h => h) (by rfl) ?hyb11 (zd.alloc zd.size _) ?restb11
  case hyb11 => (intro o ho W hW; simp only [List.getElem?_toArray, List.getElem?_cons_succ, List.getElem?_cons_zero, Option.some.injEq] at ho; subst ho; (try dsimp only at hW); skip; go_simp; try rfl)
  try simp only [Act.put, List.setIfInBounds_toArray, List.set_cons_zero, List.set_cons_succ]
  refine wpAnyH_done (by kernel_rfl) ?_ _
  refine NoPanic.normal ?_
  have ho := sown_two W.drew W.heap.size W.heap.size (D.sb [108]) (D.sb (D.dig x.p)) rfl (Nat.le_refl _)
  have zo := zd.alloc zd.size (.cells #[.string (D.sb [108]), .string (D.sb (D.dig x.p))] 9)
  have eL : D.sb [108] = ⟨#[108]⟩ := rfl
  have bo : ∃ V, V = W.drew.alloc (.cells #[.string (D.sb [108]), .string (D.sb (D.dig x.p))] 9) := ⟨_, rfl⟩
  obtain ⟨V, hV⟩ := bo
  rw [← hV] at ho zo
  have uo := UB.on zo
  have u0 := uo.c 0
  have u1 := uo.c 1
  have u2 := uo.c 2
  simp at u0 u1 u2
  obtain ⟨c0, c1, c2, c3, c4⟩ := kf0 (Shp.rd_on fb zo)
  have hV1 : W.drew.alloc (.cells #[.string ⟨#[108]⟩, .string (D.sb (D.dig x.p))] 9) = V := hV.symm
  have hV2 : (W.alloc (.cells #[.string ⟨#[108]⟩, .string (D.sb (D.dig x.p))] 9)).drew = V := hV.symm
  try rw [← hV]
  try rw [hV1]
  try rw [hV2]
  clear hV
  go_wp2_with (first
    | (go_at_call 42; (with_reducible refine (CT.out _).mono ?_); rintro e v4 ⟨rfl, b4⟩; have ht4 := ho.on b4; have zt4 := below_up zo zo.size b4; have uo := UB.on zt4; have u0 := uo.c 0; have u1 := uo.c 1; have u2 := uo.c 2; simp at u0 u1 u2; obtain ⟨c0, c1, c2, c3, c4⟩ := kf0 (Shp.rd_on fb zt4))
    | (at_builtin; (refine sapp _ rfl (.tmp 47) (.tmp 51) rfl rfl (ht4.alloc _) rfl (cell_new_at _ _ _ _ (by simp)) (by omega) ?_); intro A5 q5 x5 ho5 hg5; have z5 := (zt4.alloc zt4.size _).grown hg5 (by have := zt4.size; simp; omega) (fun k hk => ht4.block_le k hk); have uo := UB.on z5; have u0 := uo.c 0; have u1 := uo.c 1; have u2 := uo.c 2; simp at u0 u1 u2; obtain ⟨c0, c1, c2, c3, c4⟩ := kf0 (Shp.rd_on fb z5)))
  obtain ⟨g, hA, hg, hcell⟩ := ho5.at_ (by omega)
  subst hA
  have cJ := kjoin_any g q5 [D.sb [108], D.sb (D.dig x.p), D.sb (D.tx x.t)] _ (fun j y hy => hcell j y hy) hg (by simp) (by have := ho5.cap; simp; omega) hns
  go_wp2_with (go_at_call 43; (with_reducible refine Calls.mono cJ ?_); rintro e w9 ⟨rfl, b9⟩)
  go_ret
  exact ⟨rfl, below_up zW zW.size (below_up z5 z5.size b9)⟩
set_option maxHeartbeats 8000000 in
theorem ktext_4 (x : D.Ky) (w : World) (h : D.kright x = true) (hk : x.k = 4) : Calls Tryz.prog 18 #[.agg (kS.v x)] w fun e w' => e = .returned (.string (D.sb (D.jn ([D.sb [98], D.sb (D.dig x.p), D.sb (D.dig x.a)].map D.ns)))) ∧ Below w.heap.size w w' := by
  have hR := kr_of h
  have l1 : (x.p : Int) < 256 := by have := hR.p; omega
  have l2 : (x.a : Int) < 256 := by have := hR.a; omega
  have hns : (D.jn ([D.sb [98], D.sb (D.dig x.p), D.sb (D.dig x.a)].map D.ns)).length ≤ 100 := by
    have g1 := dig_len x.p
    have g2 := dig_len x.a
    have g3 := txt_len' x.n
    have g4 := tx_len' x.t
    have i1 : D.ns (D.sb (D.dig x.p)) = D.dig x.p := ns_of (D.dig_lt (by have := hR.p; omega))
    have i2 : D.ns (D.sb (D.dig x.a)) = D.dig x.a := ns_of (D.dig_lt (by have := hR.a; omega))
    have i3 : D.ns (Nm.ts x.n) = Nm.D.txt x.n := ns_of D.ntx_lt
    have i4 : D.ns (D.sb (D.tx x.t)) = D.tx' x.t := ns_of D.tx_lt
    have i5 : D.ns (D.sb [98]) = [98] := rfl
    simp only [List.map_cons, List.map_nil, i1, i2, i3, i4, i5, D.jn, List.length_append, List.length_cons, List.length_nil]
    omega
  have hwp : IntKind.i64.wrap (x.p : Int) = x.p := wrap_small hR.p
  have f0 := Shp.rd_new (S := kS) w _ 33 x rfl
  have cR := keyright_any x
  rw [h] at cR
  have CR := Lib.hid cR
  have CU := Lib.hid (fun w => (show Calls Tryz.prog 33 #[.int .i64 4] w fun e w' => e = .returned (.tuple #[.agg #[.int .i64 4, .bool false, .bool false], .bool true]) ∧ Below w.heap.size w w' from useOf_any 4 w))
  have CI := Lib.hid (fun w => itoa_any x.p (by have := hR.p; omega) w)
  have CA := Lib.hid (fun w => itoa_any x.a (by have := hR.a; omega) w)
  have CN := Lib.hid (fun w => Nm.text_any x.n w)
  have CT := Lib.hid (fun w => text_any x.t w)
  clear cR h hR
  go_enter Tryz.func18, Tryz.ntmps18
  go_wp2_with (go_at_call 13; (with_reducible refine (CR.out _).mono ?_); rintro e w1 ⟨rfl, b1⟩; have f1 := Shp.rd_on f0 b1; have c1 := (kf0 f1).1; rw [hk] at c1; have y1 : ((4 : Nat) : Int) = 4 := rfl; rw [y1] at c1)
  have z1 : Below w.heap.size w w1 := below_up (below_alloc_ _ _) (by simp) b1
  have s1 : w.heap.size < w1.heap.size := by have := b1.size; simp at this; omega
  clear b1 f0
  go_wp2_with (go_at_call 33; (with_reducible refine (CU.out _).mono ?_); rintro e w2 ⟨rfl, b2⟩)
  obtain ⟨W, hW⟩ : ∃ W, w2.alloc (.cells #[.int .i64 4, .bool false, .bool false] 75) = W := ⟨_, rfl⟩
  have fb : kS.rd W ⟨w.heap.size, 0, none⟩ = some x := by rw [← hW]; exact Shp.rd_on (Shp.rd_on f1 b2) (below_alloc_ _ _)
  have UB := Blk.new w2 75 #[.int .i64 4, .bool false, .bool false]
  rw [hW] at UB
  have zW : Below w.heap.size w W := by rw [← hW]; exact (below_up z1 z1.size b2).alloc (by have := z1.size; have := b2.size; omega) _
  try rw [hW]
  clear hW b2 z1 f1 c1 s1
  obtain ⟨m, hm⟩ : ∃ m, w2.heap.size = m := ⟨_, rfl⟩
  rw [hm] at UB
  rw [hm]
  clear hm
  have zd : Below W.heap.size W W.drew := (Below.refl _ _).drew
  refine wp_region_noPanic ?_
  refine wp_region_held_drew (S := fun V => Below W.heap.size W V) (by kernel_rfl) zd (fun _ => ?_)
  refine takeS 0 (some 16) ?va0 (by kernel_rfl) (by kernel_rfl) (by kernel_rfl) (by kernel_rfl) (fun _ _ _ h => h) (by rfl) ?hya0 zd ?resta0
  case hya0 => (intro o ho W hW; simp only [List.getElem?_toArray, List.getElem?_cons_succ, List.getElem?_cons_zero, Option.some.injEq] at ho; subst ho; (try dsimp only at hW); have ff := Shp.rd_on fb hW; obtain ⟨c0, c1, c2, c3, c4⟩ := kf0 ff; rw [hk] at c0; rw [show ((4 : Nat) : Int) = 4 from rfl] at c0; go_simp; try rfl)
  try simp only [Act.put, List.setIfInBounds_toArray, List.set_cons_zero, List.set_cons_succ]
  refine takeS 1 (some 17) ?va1 (by kernel_rfl) (by kernel_rfl) (by kernel_rfl) (by kernel_rfl) (fun _ _ _ h => h) (by rfl) ?hya1 zd ?resta1
  case hya1 => (intro o ho W hW; simp only [List.getElem?_toArray, List.getElem?_cons_succ, List.getElem?_cons_zero, Option.some.injEq] at ho; subst ho; (try dsimp only at hW); have ff := Shp.rd_on fb hW; obtain ⟨c0, c1, c2, c3, c4⟩ := kf0 ff; rw [hk] at c0; rw [show ((4 : Nat) : Int) = 4 from rfl] at c0; go_simp; try rfl)
  try simp only [Act.put, List.setIfInBounds_toArray, List.set_cons_zero, List.set_cons_succ]
  refine takeS 2 (some 18) (.int .u8 3) (by kernel_rfl) (by kernel_rfl) (by kernel_rfl) (by kernel_rfl) (fun _ _ _ h => h) (by rfl) ?hya2 zd ?resta2
  case hya2 => (intro o ho W hW; simp only [List.getElem?_toArray, List.getElem?_cons_succ, List.getElem?_cons_zero, Option.some.injEq] at ho; subst ho; (try dsimp only at hW); have ff := Shp.rd_on fb hW; obtain ⟨c0, c1, c2, c3, c4⟩ := kf0 ff; rw [hk] at c0; rw [show ((4 : Nat) : Int) = 4 from rfl] at c0; go_simp; (first | done | rfl | (rw [hwp])))
  try simp only [Act.put, List.setIfInBounds_toArray, List.set_cons_zero, List.set_cons_succ]
  refine takeS 3 (some 19) ?va3 (by kernel_rfl) (by kernel_rfl) (by kernel_rfl) (by kernel_rfl) (fun _ _ _ h => h) (by rfl) ?hya3 zd ?resta3
  case hya3 => (intro o ho W hW; simp only [List.getElem?_toArray, List.getElem?_cons_succ, List.getElem?_cons_zero, Option.some.injEq] at ho; subst ho; (try dsimp only at hW); have ff := Shp.rd_on fb hW; obtain ⟨c0, c1, c2, c3, c4⟩ := kf0 ff; rw [hk] at c0; rw [show ((4 : Nat) : Int) = 4 from rfl] at c0; go_simp; try rfl)
  try simp only [Act.put, List.setIfInBounds_toArray, List.set_cons_zero, List.set_cons_succ]
  refine takeS 4 (some 20) ?va4 (by kernel_rfl) (by kernel_rfl) (by kernel_rfl) (by kernel_rfl) (fun _ _ _ h => h) (by rfl) ?hya4 zd ?resta4
  case hya4 => (intro o ho W hW; simp only [List.getElem?_toArray, List.getElem?_cons_succ, List.getElem?_cons_zero, Option.some.injEq] at ho; subst ho; (try dsimp only at hW); have ff := Shp.rd_on fb hW; obtain ⟨c0, c1, c2, c3, c4⟩ := kf0 ff; rw [hk] at c0; rw [show ((4 : Nat) : Int) = 4 from rfl] at c0; go_simp; try rfl)
  try simp only [Act.put, List.setIfInBounds_toArray, List.set_cons_zero, List.set_cons_succ]
  refine takeS 5 (some 21) (.string (D.sb [98])) (by kernel_rfl) (by kernel_rfl) (by kernel_rfl) (by kernel_rfl) (fun _ _ _ h => h) (by rfl) ?hya5 zd ?resta5
  case hya5 => (intro o ho W hW; simp only [List.getElem?_toArray, List.getElem?_cons_succ, List.getElem?_cons_zero, Option.some.injEq] at ho; subst ho; (try dsimp only at hW); have ff := Shp.rd_on fb hW; obtain ⟨c0, c1, c2, c3, c4⟩ := kf0 ff; rw [hk] at c0; rw [show ((4 : Nat) : Int) = 4 from rfl] at c0; go_simp; (first | done | rfl | (rw [hwp])))
  try simp only [Act.put, List.setIfInBounds_toArray, List.set_cons_zero, List.set_cons_succ]
  refine takeS 6 (some 22) ?va6 (by kernel_rfl) (by kernel_rfl) (by kernel_rfl) (by kernel_rfl) (fun _ _ _ h => h) (by rfl) ?hya6 zd ?resta6
  case hya6 => (intro o ho W hW; simp only [List.getElem?_toArray, List.getElem?_cons_succ, List.getElem?_cons_zero, Option.some.injEq] at ho; subst ho; (try dsimp only at hW); have ff := Shp.rd_on fb hW; obtain ⟨c0, c1, c2, c3, c4⟩ := kf0 ff; rw [hk] at c0; rw [show ((4 : Nat) : Int) = 4 from rfl] at c0; go_simp; try rfl)
  try simp only [Act.put, List.setIfInBounds_toArray, List.set_cons_zero, List.set_cons_succ]
  refine takeS 7 (some 23) ?va7 (by kernel_rfl) (by kernel_rfl) (by kernel_rfl) (by kernel_rfl) (fun _ _ _ h => h) (by rfl) ?hya7 zd ?resta7
  case hya7 => (intro o ho W hW; simp only [List.getElem?_toArray, List.getElem?_cons_succ, List.getElem?_cons_zero, Option.some.injEq] at ho; subst ho; (try dsimp only at hW); have ff := Shp.rd_on fb hW; obtain ⟨c0, c1, c2, c3, c4⟩ := kf0 ff; rw [hk] at c0; rw [show ((4 : Nat) : Int) = 4 from rfl] at c0; go_simp; try rfl)
  try simp only [Act.put, List.setIfInBounds_toArray, List.set_cons_zero, List.set_cons_succ]
  refine takeS 8 (some 24) (.int .i64 (x.p : Int)) (by kernel_rfl) (by kernel_rfl) (by kernel_rfl) (by kernel_rfl) (fun _ _ _ h => h) (by rfl) ?hya8 zd ?resta8
  case hya8 => (intro o ho W hW; simp only [List.getElem?_toArray, List.getElem?_cons_succ, List.getElem?_cons_zero, Option.some.injEq] at ho; subst ho; (try dsimp only at hW); have ff := Shp.rd_on fb hW; obtain ⟨c0, c1, c2, c3, c4⟩ := kf0 ff; rw [hk] at c0; rw [show ((4 : Nat) : Int) = 4 from rfl] at c0; go_simp; (first | done | rfl | (rw [hwp])))
  try simp only [Act.put, List.setIfInBounds_toArray, List.set_cons_zero, List.set_cons_succ]
  refine nextS 9 (by kernel_rfl) (by rfl) (fun o ho K hK => ?_)
  simp only [List.getElem?_toArray, List.getElem?_cons_succ, List.getElem?_cons_zero, Option.some.injEq] at ho; subst ho
  go_simp
  (go_at_call 40; (with_reducible refine (CI.out _).mono ?_); rintro e v1 ⟨rfl, rfl⟩)
  refine hK.out _ _ zd (fun _ => ?_)
  clear hK K
  try simp only [Act.put, List.setIfInBounds_toArray, List.set_cons_zero, List.set_cons_succ]
  refine nextS 10 (by kernel_rfl) (by rfl) (fun o ho K hK => ?_)
  simp only [List.getElem?_toArray, List.getElem?_cons_succ, List.getElem?_cons_zero, Option.some.injEq] at ho; subst ho
  go_simp
  refine hK.out _ _ (zd.alloc zd.size _) (fun _ => ?_)
  clear hK K
  try simp only [Act.put, List.setIfInBounds_toArray, List.set_cons_zero, List.set_cons_succ]
  refine takeS 11 (some 5) ?vb11 (by kernel_rfl) (by kernel_rfl) (by kernel_rfl) (by kernel_rfl) (fun _ _ _ h => h) (by rfl) ?hyb11 (zd.alloc zd.size _) ?restb11
  case hyb11 => (intro o ho W hW; simp only [List.getElem?_toArray, List.getElem?_cons_succ, List.getElem?_cons_zero, Option.some.injEq] at ho; subst ho; (try dsimp only at hW); skip; go_simp; try rfl)
  try simp only [Act.put, List.setIfInBounds_toArray, List.set_cons_zero, List.set_cons_succ]
  refine wpAnyH_done (by kernel_rfl) ?_ _
  refine NoPanic.normal ?_
  have ho := sown_two W.drew W.heap.size W.heap.size (D.sb [98]) (D.sb (D.dig x.p)) rfl (Nat.le_refl _)
  have zo := zd.alloc zd.size (.cells #[.string (D.sb [98]), .string (D.sb (D.dig x.p))] 9)
  have eL : D.sb [98] = ⟨#[98]⟩ := rfl
  have bo : ∃ V, V = W.drew.alloc (.cells #[.string (D.sb [98]), .string (D.sb (D.dig x.p))] 9) := ⟨_, rfl⟩
  obtain ⟨V, hV⟩ := bo
  rw [← hV] at ho zo
  have uo := UB.on zo
  have u0 := uo.c 0
  have u1 := uo.c 1
  have u2 := uo.c 2
  simp at u0 u1 u2
  obtain ⟨c0, c1, c2, c3, c4⟩ := kf0 (Shp.rd_on fb zo)
  have hV1 : W.drew.alloc (.cells #[.string ⟨#[98]⟩, .string (D.sb (D.dig x.p))] 9) = V := hV.symm
  have hV2 : (W.alloc (.cells #[.string ⟨#[98]⟩, .string (D.sb (D.dig x.p))] 9)).drew = V := hV.symm
  try rw [← hV]
  try rw [hV1]
  try rw [hV2]
  clear hV
  go_wp2_with (first
    | (go_at_call 40; (with_reducible refine (CA.out _).mono ?_); rintro e v2 ⟨rfl, rfl⟩)
    | (at_builtin; (refine sapp _ rfl (.tmp 30) (.tmp 35) rfl rfl (ho.alloc _) rfl (cell_new_at _ _ _ _ (by simp)) (by omega) ?_); intro A3 q3 x3 ho3 hg3; have z3 := (zo.alloc zo.size _).grown hg3 (by have := zo.size; simp; omega) (fun k hk => ho.block_le k hk); have uo := UB.on z3; have u0 := uo.c 0; have u1 := uo.c 1; have u2 := uo.c 2; simp at u0 u1 u2; obtain ⟨c0, c1, c2, c3, c4⟩ := kf0 (Shp.rd_on fb z3)))
  obtain ⟨g, hA, hg, hcell⟩ := ho3.at_ (by omega)
  subst hA
  have cJ := kjoin_any g q3 [D.sb [98], D.sb (D.dig x.p), D.sb (D.dig x.a)] _ (fun j y hy => hcell j y hy) hg (by simp) (by have := ho3.cap; simp; omega) hns
  go_wp2_with (go_at_call 43; (with_reducible refine Calls.mono cJ ?_); rintro e w9 ⟨rfl, b9⟩)
  go_ret
  exact ⟨rfl, below_up zW zW.size (below_up z3 z3.size b9)⟩
set_option maxHeartbeats 8000000 in
theorem ktext_5 (x : D.Ky) (w : World) (h : D.kright x = true) (hk : x.k = 5) : Calls Tryz.prog 18 #[.agg (kS.v x)] w fun e w' => e = .returned (.string (D.sb (D.jn ([D.sb [115], D.sb (D.dig x.p), D.sb (D.dig x.a), Nm.ts x.n].map D.ns)))) ∧ Below w.heap.size w w' := by
  have hR := kr_of h
  have l1 : (x.p : Int) < 256 := by have := hR.p; omega
  have l2 : (x.a : Int) < 256 := by have := hR.a; omega
  have hns : (D.jn ([D.sb [115], D.sb (D.dig x.p), D.sb (D.dig x.a), Nm.ts x.n].map D.ns)).length ≤ 100 := by
    have g1 := dig_len x.p
    have g2 := dig_len x.a
    have g3 := txt_len' x.n
    have g4 := tx_len' x.t
    have i1 : D.ns (D.sb (D.dig x.p)) = D.dig x.p := ns_of (D.dig_lt (by have := hR.p; omega))
    have i2 : D.ns (D.sb (D.dig x.a)) = D.dig x.a := ns_of (D.dig_lt (by have := hR.a; omega))
    have i3 : D.ns (Nm.ts x.n) = Nm.D.txt x.n := ns_of D.ntx_lt
    have i4 : D.ns (D.sb (D.tx x.t)) = D.tx' x.t := ns_of D.tx_lt
    have i5 : D.ns (D.sb [115]) = [115] := rfl
    simp only [List.map_cons, List.map_nil, i1, i2, i3, i4, i5, D.jn, List.length_append, List.length_cons, List.length_nil]
    omega
  have hwp : IntKind.i64.wrap (x.p : Int) = x.p := wrap_small hR.p
  have f0 := Shp.rd_new (S := kS) w _ 33 x rfl
  have cR := keyright_any x
  rw [h] at cR
  have CR := Lib.hid cR
  have CU := Lib.hid (fun w => (show Calls Tryz.prog 33 #[.int .i64 5] w fun e w' => e = .returned (.tuple #[.agg #[.int .i64 4, .bool true, .bool false], .bool true]) ∧ Below w.heap.size w w' from useOf_any 5 w))
  have CI := Lib.hid (fun w => itoa_any x.p (by have := hR.p; omega) w)
  have CA := Lib.hid (fun w => itoa_any x.a (by have := hR.a; omega) w)
  have CN := Lib.hid (fun w => Nm.text_any x.n w)
  have CT := Lib.hid (fun w => text_any x.t w)
  clear cR h hR
  go_enter Tryz.func18, Tryz.ntmps18
  go_wp2_with (go_at_call 13; (with_reducible refine (CR.out _).mono ?_); rintro e w1 ⟨rfl, b1⟩; have f1 := Shp.rd_on f0 b1; have c1 := (kf0 f1).1; rw [hk] at c1; have y1 : ((5 : Nat) : Int) = 5 := rfl; rw [y1] at c1)
  have z1 : Below w.heap.size w w1 := below_up (below_alloc_ _ _) (by simp) b1
  have s1 : w.heap.size < w1.heap.size := by have := b1.size; simp at this; omega
  clear b1 f0
  go_wp2_with (go_at_call 33; (with_reducible refine (CU.out _).mono ?_); rintro e w2 ⟨rfl, b2⟩)
  obtain ⟨W, hW⟩ : ∃ W, w2.alloc (.cells #[.int .i64 4, .bool true, .bool false] 75) = W := ⟨_, rfl⟩
  have fb : kS.rd W ⟨w.heap.size, 0, none⟩ = some x := by rw [← hW]; exact Shp.rd_on (Shp.rd_on f1 b2) (below_alloc_ _ _)
  have UB := Blk.new w2 75 #[.int .i64 4, .bool true, .bool false]
  rw [hW] at UB
  have zW : Below w.heap.size w W := by rw [← hW]; exact (below_up z1 z1.size b2).alloc (by have := z1.size; have := b2.size; omega) _
  try rw [hW]
  clear hW b2 z1 f1 c1 s1
  obtain ⟨m, hm⟩ : ∃ m, w2.heap.size = m := ⟨_, rfl⟩
  rw [hm] at UB
  rw [hm]
  clear hm
  have zd : Below W.heap.size W W.drew := (Below.refl _ _).drew
  refine wp_region_noPanic ?_
  refine wp_region_held_drew (S := fun V => Below W.heap.size W V) (by kernel_rfl) zd (fun _ => ?_)
  refine takeS 0 (some 16) ?va0 (by kernel_rfl) (by kernel_rfl) (by kernel_rfl) (by kernel_rfl) (fun _ _ _ h => h) (by rfl) ?hya0 zd ?resta0
  case hya0 => (intro o ho W hW; simp only [List.getElem?_toArray, List.getElem?_cons_succ, List.getElem?_cons_zero, Option.some.injEq] at ho; subst ho; (try dsimp only at hW); have ff := Shp.rd_on fb hW; obtain ⟨c0, c1, c2, c3, c4⟩ := kf0 ff; rw [hk] at c0; rw [show ((5 : Nat) : Int) = 5 from rfl] at c0; go_simp; try rfl)
  try simp only [Act.put, List.setIfInBounds_toArray, List.set_cons_zero, List.set_cons_succ]
  refine takeS 1 (some 17) ?va1 (by kernel_rfl) (by kernel_rfl) (by kernel_rfl) (by kernel_rfl) (fun _ _ _ h => h) (by rfl) ?hya1 zd ?resta1
  case hya1 => (intro o ho W hW; simp only [List.getElem?_toArray, List.getElem?_cons_succ, List.getElem?_cons_zero, Option.some.injEq] at ho; subst ho; (try dsimp only at hW); have ff := Shp.rd_on fb hW; obtain ⟨c0, c1, c2, c3, c4⟩ := kf0 ff; rw [hk] at c0; rw [show ((5 : Nat) : Int) = 5 from rfl] at c0; go_simp; try rfl)
  try simp only [Act.put, List.setIfInBounds_toArray, List.set_cons_zero, List.set_cons_succ]
  refine takeS 2 (some 18) (.int .u8 4) (by kernel_rfl) (by kernel_rfl) (by kernel_rfl) (by kernel_rfl) (fun _ _ _ h => h) (by rfl) ?hya2 zd ?resta2
  case hya2 => (intro o ho W hW; simp only [List.getElem?_toArray, List.getElem?_cons_succ, List.getElem?_cons_zero, Option.some.injEq] at ho; subst ho; (try dsimp only at hW); have ff := Shp.rd_on fb hW; obtain ⟨c0, c1, c2, c3, c4⟩ := kf0 ff; rw [hk] at c0; rw [show ((5 : Nat) : Int) = 5 from rfl] at c0; go_simp; (first | done | rfl | (rw [hwp])))
  try simp only [Act.put, List.setIfInBounds_toArray, List.set_cons_zero, List.set_cons_succ]
  refine takeS 3 (some 19) ?va3 (by kernel_rfl) (by kernel_rfl) (by kernel_rfl) (by kernel_rfl) (fun _ _ _ h => h) (by rfl) ?hya3 zd ?resta3
  case hya3 => (intro o ho W hW; simp only [List.getElem?_toArray, List.getElem?_cons_succ, List.getElem?_cons_zero, Option.some.injEq] at ho; subst ho; (try dsimp only at hW); have ff := Shp.rd_on fb hW; obtain ⟨c0, c1, c2, c3, c4⟩ := kf0 ff; rw [hk] at c0; rw [show ((5 : Nat) : Int) = 5 from rfl] at c0; go_simp; try rfl)
  try simp only [Act.put, List.setIfInBounds_toArray, List.set_cons_zero, List.set_cons_succ]
  refine takeS 4 (some 20) ?va4 (by kernel_rfl) (by kernel_rfl) (by kernel_rfl) (by kernel_rfl) (fun _ _ _ h => h) (by rfl) ?hya4 zd ?resta4
  case hya4 => (intro o ho W hW; simp only [List.getElem?_toArray, List.getElem?_cons_succ, List.getElem?_cons_zero, Option.some.injEq] at ho; subst ho; (try dsimp only at hW); have ff := Shp.rd_on fb hW; obtain ⟨c0, c1, c2, c3, c4⟩ := kf0 ff; rw [hk] at c0; rw [show ((5 : Nat) : Int) = 5 from rfl] at c0; go_simp; try rfl)
  try simp only [Act.put, List.setIfInBounds_toArray, List.set_cons_zero, List.set_cons_succ]
  refine takeS 5 (some 21) (.string (D.sb [115])) (by kernel_rfl) (by kernel_rfl) (by kernel_rfl) (by kernel_rfl) (fun _ _ _ h => h) (by rfl) ?hya5 zd ?resta5
  case hya5 => (intro o ho W hW; simp only [List.getElem?_toArray, List.getElem?_cons_succ, List.getElem?_cons_zero, Option.some.injEq] at ho; subst ho; (try dsimp only at hW); have ff := Shp.rd_on fb hW; obtain ⟨c0, c1, c2, c3, c4⟩ := kf0 ff; rw [hk] at c0; rw [show ((5 : Nat) : Int) = 5 from rfl] at c0; go_simp; (first | done | rfl | (rw [hwp])))
  try simp only [Act.put, List.setIfInBounds_toArray, List.set_cons_zero, List.set_cons_succ]
  refine takeS 6 (some 22) ?va6 (by kernel_rfl) (by kernel_rfl) (by kernel_rfl) (by kernel_rfl) (fun _ _ _ h => h) (by rfl) ?hya6 zd ?resta6
  case hya6 => (intro o ho W hW; simp only [List.getElem?_toArray, List.getElem?_cons_succ, List.getElem?_cons_zero, Option.some.injEq] at ho; subst ho; (try dsimp only at hW); have ff := Shp.rd_on fb hW; obtain ⟨c0, c1, c2, c3, c4⟩ := kf0 ff; rw [hk] at c0; rw [show ((5 : Nat) : Int) = 5 from rfl] at c0; go_simp; try rfl)
  try simp only [Act.put, List.setIfInBounds_toArray, List.set_cons_zero, List.set_cons_succ]
  refine takeS 7 (some 23) ?va7 (by kernel_rfl) (by kernel_rfl) (by kernel_rfl) (by kernel_rfl) (fun _ _ _ h => h) (by rfl) ?hya7 zd ?resta7
  case hya7 => (intro o ho W hW; simp only [List.getElem?_toArray, List.getElem?_cons_succ, List.getElem?_cons_zero, Option.some.injEq] at ho; subst ho; (try dsimp only at hW); have ff := Shp.rd_on fb hW; obtain ⟨c0, c1, c2, c3, c4⟩ := kf0 ff; rw [hk] at c0; rw [show ((5 : Nat) : Int) = 5 from rfl] at c0; go_simp; try rfl)
  try simp only [Act.put, List.setIfInBounds_toArray, List.set_cons_zero, List.set_cons_succ]
  refine takeS 8 (some 24) (.int .i64 (x.p : Int)) (by kernel_rfl) (by kernel_rfl) (by kernel_rfl) (by kernel_rfl) (fun _ _ _ h => h) (by rfl) ?hya8 zd ?resta8
  case hya8 => (intro o ho W hW; simp only [List.getElem?_toArray, List.getElem?_cons_succ, List.getElem?_cons_zero, Option.some.injEq] at ho; subst ho; (try dsimp only at hW); have ff := Shp.rd_on fb hW; obtain ⟨c0, c1, c2, c3, c4⟩ := kf0 ff; rw [hk] at c0; rw [show ((5 : Nat) : Int) = 5 from rfl] at c0; go_simp; (first | done | rfl | (rw [hwp])))
  try simp only [Act.put, List.setIfInBounds_toArray, List.set_cons_zero, List.set_cons_succ]
  refine nextS 9 (by kernel_rfl) (by rfl) (fun o ho K hK => ?_)
  simp only [List.getElem?_toArray, List.getElem?_cons_succ, List.getElem?_cons_zero, Option.some.injEq] at ho; subst ho
  go_simp
  (go_at_call 40; (with_reducible refine (CI.out _).mono ?_); rintro e v1 ⟨rfl, rfl⟩)
  refine hK.out _ _ zd (fun _ => ?_)
  clear hK K
  try simp only [Act.put, List.setIfInBounds_toArray, List.set_cons_zero, List.set_cons_succ]
  refine nextS 10 (by kernel_rfl) (by rfl) (fun o ho K hK => ?_)
  simp only [List.getElem?_toArray, List.getElem?_cons_succ, List.getElem?_cons_zero, Option.some.injEq] at ho; subst ho
  go_simp
  refine hK.out _ _ (zd.alloc zd.size _) (fun _ => ?_)
  clear hK K
  try simp only [Act.put, List.setIfInBounds_toArray, List.set_cons_zero, List.set_cons_succ]
  refine takeS 11 (some 5) ?vb11 (by kernel_rfl) (by kernel_rfl) (by kernel_rfl) (by kernel_rfl) (fun _ _ _ h => h) (by rfl) ?hyb11 (zd.alloc zd.size _) ?restb11
  case hyb11 => (intro o ho W hW; simp only [List.getElem?_toArray, List.getElem?_cons_succ, List.getElem?_cons_zero, Option.some.injEq] at ho; subst ho; (try dsimp only at hW); skip; go_simp; try rfl)
  try simp only [Act.put, List.setIfInBounds_toArray, List.set_cons_zero, List.set_cons_succ]
  refine wpAnyH_done (by kernel_rfl) ?_ _
  refine NoPanic.normal ?_
  have ho := sown_two W.drew W.heap.size W.heap.size (D.sb [115]) (D.sb (D.dig x.p)) rfl (Nat.le_refl _)
  have zo := zd.alloc zd.size (.cells #[.string (D.sb [115]), .string (D.sb (D.dig x.p))] 9)
  have eL : D.sb [115] = ⟨#[115]⟩ := rfl
  have bo : ∃ V, V = W.drew.alloc (.cells #[.string (D.sb [115]), .string (D.sb (D.dig x.p))] 9) := ⟨_, rfl⟩
  obtain ⟨V, hV⟩ := bo
  rw [← hV] at ho zo
  have uo := UB.on zo
  have u0 := uo.c 0
  have u1 := uo.c 1
  have u2 := uo.c 2
  simp at u0 u1 u2
  obtain ⟨c0, c1, c2, c3, c4⟩ := kf0 (Shp.rd_on fb zo)
  have hV1 : W.drew.alloc (.cells #[.string ⟨#[115]⟩, .string (D.sb (D.dig x.p))] 9) = V := hV.symm
  have hV2 : (W.alloc (.cells #[.string ⟨#[115]⟩, .string (D.sb (D.dig x.p))] 9)).drew = V := hV.symm
  try rw [← hV]
  try rw [hV1]
  try rw [hV2]
  clear hV
  go_wp2_with (first
    | (go_at_call 40; (with_reducible refine (CA.out _).mono ?_); rintro e v2 ⟨rfl, rfl⟩)
    | (at_builtin; (refine sapp _ rfl (.tmp 30) (.tmp 35) rfl rfl (ho.alloc _) rfl (cell_new_at _ _ _ _ (by simp)) (by omega) ?_); intro A3 q3 x3 ho3 hg3; have z3 := (zo.alloc zo.size _).grown hg3 (by have := zo.size; simp; omega) (fun k hk => ho.block_le k hk); have uo := UB.on z3; have u0 := uo.c 0; have u1 := uo.c 1; have u2 := uo.c 2; simp at u0 u1 u2; obtain ⟨c0, c1, c2, c3, c4⟩ := kf0 (Shp.rd_on fb z3))
    | (go_at_call 41; (with_reducible refine (CN.out _).mono ?_); rintro e v3 ⟨rfl, b3⟩; have hn3 := ho3.on b3; have zn3 := below_up z3 z3.size b3; have uo := UB.on zn3; have u0 := uo.c 0; have u1 := uo.c 1; have u2 := uo.c 2; simp at u0 u1 u2; obtain ⟨c0, c1, c2, c3, c4⟩ := kf0 (Shp.rd_on fb zn3))
    | (at_builtin; (refine sapp _ rfl (.tmp 39) (.tmp 43) rfl rfl (hn3.alloc _) rfl (cell_new_at _ _ _ _ (by simp)) (by omega) ?_); intro A4 q4 x4 ho4 hg4; have z4 := (zn3.alloc zn3.size _).grown hg4 (by have := zn3.size; simp; omega) (fun k hk => hn3.block_le k hk); have uo := UB.on z4; have u0 := uo.c 0; have u1 := uo.c 1; have u2 := uo.c 2; simp at u0 u1 u2; obtain ⟨c0, c1, c2, c3, c4⟩ := kf0 (Shp.rd_on fb z4)))
  obtain ⟨g, hA, hg, hcell⟩ := ho4.at_ (by omega)
  subst hA
  have cJ := kjoin_any g q4 [D.sb [115], D.sb (D.dig x.p), D.sb (D.dig x.a), Nm.ts x.n] _ (fun j y hy => hcell j y hy) hg (by simp) (by have := ho4.cap; simp; omega) hns
  go_wp2_with (go_at_call 43; (with_reducible refine Calls.mono cJ ?_); rintro e w9 ⟨rfl, b9⟩)
  go_ret
  exact ⟨rfl, below_up zW zW.size (below_up z4 z4.size b9)⟩
set_option maxHeartbeats 8000000 in
theorem ktext_6 (x : D.Ky) (w : World) (h : D.kright x = true) (hk : x.k = 6) : Calls Tryz.prog 18 #[.agg (kS.v x)] w fun e w' => e = .returned (.string (D.sb (D.jn ([D.sb [116], D.sb (D.dig x.p), D.sb (D.dig x.a), Nm.ts x.n, D.sb (D.tx x.t)].map D.ns)))) ∧ Below w.heap.size w w' := by
  have hR := kr_of h
  have l1 : (x.p : Int) < 256 := by have := hR.p; omega
  have l2 : (x.a : Int) < 256 := by have := hR.a; omega
  have hns : (D.jn ([D.sb [116], D.sb (D.dig x.p), D.sb (D.dig x.a), Nm.ts x.n, D.sb (D.tx x.t)].map D.ns)).length ≤ 100 := by
    have g1 := dig_len x.p
    have g2 := dig_len x.a
    have g3 := txt_len' x.n
    have g4 := tx_len' x.t
    have i1 : D.ns (D.sb (D.dig x.p)) = D.dig x.p := ns_of (D.dig_lt (by have := hR.p; omega))
    have i2 : D.ns (D.sb (D.dig x.a)) = D.dig x.a := ns_of (D.dig_lt (by have := hR.a; omega))
    have i3 : D.ns (Nm.ts x.n) = Nm.D.txt x.n := ns_of D.ntx_lt
    have i4 : D.ns (D.sb (D.tx x.t)) = D.tx' x.t := ns_of D.tx_lt
    have i5 : D.ns (D.sb [116]) = [116] := rfl
    simp only [List.map_cons, List.map_nil, i1, i2, i3, i4, i5, D.jn, List.length_append, List.length_cons, List.length_nil]
    omega
  have hwp : IntKind.i64.wrap (x.p : Int) = x.p := wrap_small hR.p
  have f0 := Shp.rd_new (S := kS) w _ 33 x rfl
  have cR := keyright_any x
  rw [h] at cR
  have CR := Lib.hid cR
  have CU := Lib.hid (fun w => (show Calls Tryz.prog 33 #[.int .i64 6] w fun e w' => e = .returned (.tuple #[.agg #[.int .i64 4, .bool true, .bool true], .bool true]) ∧ Below w.heap.size w w' from useOf_any 6 w))
  have CI := Lib.hid (fun w => itoa_any x.p (by have := hR.p; omega) w)
  have CA := Lib.hid (fun w => itoa_any x.a (by have := hR.a; omega) w)
  have CN := Lib.hid (fun w => Nm.text_any x.n w)
  have CT := Lib.hid (fun w => text_any x.t w)
  clear cR h hR
  go_enter Tryz.func18, Tryz.ntmps18
  go_wp2_with (go_at_call 13; (with_reducible refine (CR.out _).mono ?_); rintro e w1 ⟨rfl, b1⟩; have f1 := Shp.rd_on f0 b1; have c1 := (kf0 f1).1; rw [hk] at c1; have y1 : ((6 : Nat) : Int) = 6 := rfl; rw [y1] at c1)
  have z1 : Below w.heap.size w w1 := below_up (below_alloc_ _ _) (by simp) b1
  have s1 : w.heap.size < w1.heap.size := by have := b1.size; simp at this; omega
  clear b1 f0
  go_wp2_with (go_at_call 33; (with_reducible refine (CU.out _).mono ?_); rintro e w2 ⟨rfl, b2⟩)
  obtain ⟨W, hW⟩ : ∃ W, w2.alloc (.cells #[.int .i64 4, .bool true, .bool true] 75) = W := ⟨_, rfl⟩
  have fb : kS.rd W ⟨w.heap.size, 0, none⟩ = some x := by rw [← hW]; exact Shp.rd_on (Shp.rd_on f1 b2) (below_alloc_ _ _)
  have UB := Blk.new w2 75 #[.int .i64 4, .bool true, .bool true]
  rw [hW] at UB
  have zW : Below w.heap.size w W := by rw [← hW]; exact (below_up z1 z1.size b2).alloc (by have := z1.size; have := b2.size; omega) _
  try rw [hW]
  clear hW b2 z1 f1 c1 s1
  obtain ⟨m, hm⟩ : ∃ m, w2.heap.size = m := ⟨_, rfl⟩
  rw [hm] at UB
  rw [hm]
  clear hm
  have zd : Below W.heap.size W W.drew := (Below.refl _ _).drew
  refine wp_region_noPanic ?_
  refine wp_region_held_drew (S := fun V => Below W.heap.size W V) (by kernel_rfl) zd (fun _ => ?_)
  refine takeS 0 (some 16) ?va0 (by kernel_rfl) (by kernel_rfl) (by kernel_rfl) (by kernel_rfl) (fun _ _ _ h => h) (by rfl) ?hya0 zd ?resta0
  case hya0 => (intro o ho W hW; simp only [List.getElem?_toArray, List.getElem?_cons_succ, List.getElem?_cons_zero, Option.some.injEq] at ho; subst ho; (try dsimp only at hW); have ff := Shp.rd_on fb hW; obtain ⟨c0, c1, c2, c3, c4⟩ := kf0 ff; rw [hk] at c0; rw [show ((6 : Nat) : Int) = 6 from rfl] at c0; go_simp; try rfl)
  try simp only [Act.put, List.setIfInBounds_toArray, List.set_cons_zero, List.set_cons_succ]
  refine takeS 1 (some 17) ?va1 (by kernel_rfl) (by kernel_rfl) (by kernel_rfl) (by kernel_rfl) (fun _ _ _ h => h) (by rfl) ?hya1 zd ?resta1
  case hya1 => (intro o ho W hW; simp only [List.getElem?_toArray, List.getElem?_cons_succ, List.getElem?_cons_zero, Option.some.injEq] at ho; subst ho; (try dsimp only at hW); have ff := Shp.rd_on fb hW; obtain ⟨c0, c1, c2, c3, c4⟩ := kf0 ff; rw [hk] at c0; rw [show ((6 : Nat) : Int) = 6 from rfl] at c0; go_simp; try rfl)
  try simp only [Act.put, List.setIfInBounds_toArray, List.set_cons_zero, List.set_cons_succ]
  refine takeS 2 (some 18) (.int .u8 5) (by kernel_rfl) (by kernel_rfl) (by kernel_rfl) (by kernel_rfl) (fun _ _ _ h => h) (by rfl) ?hya2 zd ?resta2
  case hya2 => (intro o ho W hW; simp only [List.getElem?_toArray, List.getElem?_cons_succ, List.getElem?_cons_zero, Option.some.injEq] at ho; subst ho; (try dsimp only at hW); have ff := Shp.rd_on fb hW; obtain ⟨c0, c1, c2, c3, c4⟩ := kf0 ff; rw [hk] at c0; rw [show ((6 : Nat) : Int) = 6 from rfl] at c0; go_simp; (first | done | rfl | (rw [hwp])))
  try simp only [Act.put, List.setIfInBounds_toArray, List.set_cons_zero, List.set_cons_succ]
  refine takeS 3 (some 19) ?va3 (by kernel_rfl) (by kernel_rfl) (by kernel_rfl) (by kernel_rfl) (fun _ _ _ h => h) (by rfl) ?hya3 zd ?resta3
  case hya3 => (intro o ho W hW; simp only [List.getElem?_toArray, List.getElem?_cons_succ, List.getElem?_cons_zero, Option.some.injEq] at ho; subst ho; (try dsimp only at hW); have ff := Shp.rd_on fb hW; obtain ⟨c0, c1, c2, c3, c4⟩ := kf0 ff; rw [hk] at c0; rw [show ((6 : Nat) : Int) = 6 from rfl] at c0; go_simp; try rfl)
  try simp only [Act.put, List.setIfInBounds_toArray, List.set_cons_zero, List.set_cons_succ]
  refine takeS 4 (some 20) ?va4 (by kernel_rfl) (by kernel_rfl) (by kernel_rfl) (by kernel_rfl) (fun _ _ _ h => h) (by rfl) ?hya4 zd ?resta4
  case hya4 => (intro o ho W hW; simp only [List.getElem?_toArray, List.getElem?_cons_succ, List.getElem?_cons_zero, Option.some.injEq] at ho; subst ho; (try dsimp only at hW); have ff := Shp.rd_on fb hW; obtain ⟨c0, c1, c2, c3, c4⟩ := kf0 ff; rw [hk] at c0; rw [show ((6 : Nat) : Int) = 6 from rfl] at c0; go_simp; try rfl)
  try simp only [Act.put, List.setIfInBounds_toArray, List.set_cons_zero, List.set_cons_succ]
  refine takeS 5 (some 21) (.string (D.sb [116])) (by kernel_rfl) (by kernel_rfl) (by kernel_rfl) (by kernel_rfl) (fun _ _ _ h => h) (by rfl) ?hya5 zd ?resta5
  case hya5 => (intro o ho W hW; simp only [List.getElem?_toArray, List.getElem?_cons_succ, List.getElem?_cons_zero, Option.some.injEq] at ho; subst ho; (try dsimp only at hW); have ff := Shp.rd_on fb hW; obtain ⟨c0, c1, c2, c3, c4⟩ := kf0 ff; rw [hk] at c0; rw [show ((6 : Nat) : Int) = 6 from rfl] at c0; go_simp; (first | done | rfl | (rw [hwp])))
  try simp only [Act.put, List.setIfInBounds_toArray, List.set_cons_zero, List.set_cons_succ]
  refine takeS 6 (some 22) ?va6 (by kernel_rfl) (by kernel_rfl) (by kernel_rfl) (by kernel_rfl) (fun _ _ _ h => h) (by rfl) ?hya6 zd ?resta6
  case hya6 => (intro o ho W hW; simp only [List.getElem?_toArray, List.getElem?_cons_succ, List.getElem?_cons_zero, Option.some.injEq] at ho; subst ho; (try dsimp only at hW); have ff := Shp.rd_on fb hW; obtain ⟨c0, c1, c2, c3, c4⟩ := kf0 ff; rw [hk] at c0; rw [show ((6 : Nat) : Int) = 6 from rfl] at c0; go_simp; try rfl)
  try simp only [Act.put, List.setIfInBounds_toArray, List.set_cons_zero, List.set_cons_succ]
  refine takeS 7 (some 23) ?va7 (by kernel_rfl) (by kernel_rfl) (by kernel_rfl) (by kernel_rfl) (fun _ _ _ h => h) (by rfl) ?hya7 zd ?resta7
  case hya7 => (intro o ho W hW; simp only [List.getElem?_toArray, List.getElem?_cons_succ, List.getElem?_cons_zero, Option.some.injEq] at ho; subst ho; (try dsimp only at hW); have ff := Shp.rd_on fb hW; obtain ⟨c0, c1, c2, c3, c4⟩ := kf0 ff; rw [hk] at c0; rw [show ((6 : Nat) : Int) = 6 from rfl] at c0; go_simp; try rfl)
  try simp only [Act.put, List.setIfInBounds_toArray, List.set_cons_zero, List.set_cons_succ]
  refine takeS 8 (some 24) (.int .i64 (x.p : Int)) (by kernel_rfl) (by kernel_rfl) (by kernel_rfl) (by kernel_rfl) (fun _ _ _ h => h) (by rfl) ?hya8 zd ?resta8
  case hya8 => (intro o ho W hW; simp only [List.getElem?_toArray, List.getElem?_cons_succ, List.getElem?_cons_zero, Option.some.injEq] at ho; subst ho; (try dsimp only at hW); have ff := Shp.rd_on fb hW; obtain ⟨c0, c1, c2, c3, c4⟩ := kf0 ff; rw [hk] at c0; rw [show ((6 : Nat) : Int) = 6 from rfl] at c0; go_simp; (first | done | rfl | (rw [hwp])))
  try simp only [Act.put, List.setIfInBounds_toArray, List.set_cons_zero, List.set_cons_succ]
  refine nextS 9 (by kernel_rfl) (by rfl) (fun o ho K hK => ?_)
  simp only [List.getElem?_toArray, List.getElem?_cons_succ, List.getElem?_cons_zero, Option.some.injEq] at ho; subst ho
  go_simp
  (go_at_call 40; (with_reducible refine (CI.out _).mono ?_); rintro e v1 ⟨rfl, rfl⟩)
  refine hK.out _ _ zd (fun _ => ?_)
  clear hK K
  try simp only [Act.put, List.setIfInBounds_toArray, List.set_cons_zero, List.set_cons_succ]
  refine nextS 10 (by kernel_rfl) (by rfl) (fun o ho K hK => ?_)
  simp only [List.getElem?_toArray, List.getElem?_cons_succ, List.getElem?_cons_zero, Option.some.injEq] at ho; subst ho
  go_simp
  refine hK.out _ _ (zd.alloc zd.size _) (fun _ => ?_)
  clear hK K
  try simp only [Act.put, List.setIfInBounds_toArray, List.set_cons_zero, List.set_cons_succ]
  refine takeS 11 (some 5) ?vb11 (by kernel_rfl) (by kernel_rfl) (by kernel_rfl) (by kernel_rfl) (fun _ _ _ h => h) (by rfl) ?hyb11 (zd.alloc zd.size _) ?restb11
  case hyb11 => (intro o ho W hW; simp only [List.getElem?_toArray, List.getElem?_cons_succ, List.getElem?_cons_zero, Option.some.injEq] at ho; subst ho; (try dsimp only at hW); skip; go_simp; try rfl)
  try simp only [Act.put, List.setIfInBounds_toArray, List.set_cons_zero, List.set_cons_succ]
  refine wpAnyH_done (by kernel_rfl) ?_ _
  refine NoPanic.normal ?_
  have ho := sown_two W.drew W.heap.size W.heap.size (D.sb [116]) (D.sb (D.dig x.p)) rfl (Nat.le_refl _)
  have zo := zd.alloc zd.size (.cells #[.string (D.sb [116]), .string (D.sb (D.dig x.p))] 9)
  have eL : D.sb [116] = ⟨#[116]⟩ := rfl
  have bo : ∃ V, V = W.drew.alloc (.cells #[.string (D.sb [116]), .string (D.sb (D.dig x.p))] 9) := ⟨_, rfl⟩
  obtain ⟨V, hV⟩ := bo
  rw [← hV] at ho zo
  have uo := UB.on zo
  have u0 := uo.c 0
  have u1 := uo.c 1
  have u2 := uo.c 2
  simp at u0 u1 u2
  obtain ⟨c0, c1, c2, c3, c4⟩ := kf0 (Shp.rd_on fb zo)
  have hV1 : W.drew.alloc (.cells #[.string ⟨#[116]⟩, .string (D.sb (D.dig x.p))] 9) = V := hV.symm
  have hV2 : (W.alloc (.cells #[.string ⟨#[116]⟩, .string (D.sb (D.dig x.p))] 9)).drew = V := hV.symm
  try rw [← hV]
  try rw [hV1]
  try rw [hV2]
  clear hV
  go_wp2_with (first
    | (go_at_call 40; (with_reducible refine (CA.out _).mono ?_); rintro e v2 ⟨rfl, rfl⟩)
    | (at_builtin; (refine sapp _ rfl (.tmp 30) (.tmp 35) rfl rfl (ho.alloc _) rfl (cell_new_at _ _ _ _ (by simp)) (by omega) ?_); intro A3 q3 x3 ho3 hg3; have z3 := (zo.alloc zo.size _).grown hg3 (by have := zo.size; simp; omega) (fun k hk => ho.block_le k hk); have uo := UB.on z3; have u0 := uo.c 0; have u1 := uo.c 1; have u2 := uo.c 2; simp at u0 u1 u2; obtain ⟨c0, c1, c2, c3, c4⟩ := kf0 (Shp.rd_on fb z3))
    | (go_at_call 41; (with_reducible refine (CN.out _).mono ?_); rintro e v3 ⟨rfl, b3⟩; have hn3 := ho3.on b3; have zn3 := below_up z3 z3.size b3; have uo := UB.on zn3; have u0 := uo.c 0; have u1 := uo.c 1; have u2 := uo.c 2; simp at u0 u1 u2; obtain ⟨c0, c1, c2, c3, c4⟩ := kf0 (Shp.rd_on fb zn3))
    | (at_builtin; (refine sapp _ rfl (.tmp 39) (.tmp 43) rfl rfl (hn3.alloc _) rfl (cell_new_at _ _ _ _ (by simp)) (by omega) ?_); intro A4 q4 x4 ho4 hg4; have z4 := (zn3.alloc zn3.size _).grown hg4 (by have := zn3.size; simp; omega) (fun k hk => hn3.block_le k hk); have uo := UB.on z4; have u0 := uo.c 0; have u1 := uo.c 1; have u2 := uo.c 2; simp at u0 u1 u2; obtain ⟨c0, c1, c2, c3, c4⟩ := kf0 (Shp.rd_on fb z4))
    | (go_at_call 42; (with_reducible refine (CT.out _).mono ?_); rintro e v4 ⟨rfl, b4⟩; have ht4 := ho4.on b4; have zt4 := below_up z4 z4.size b4; have uo := UB.on zt4; have u0 := uo.c 0; have u1 := uo.c 1; have u2 := uo.c 2; simp at u0 u1 u2; obtain ⟨c0, c1, c2, c3, c4⟩ := kf0 (Shp.rd_on fb zt4))
    | (at_builtin; (refine sapp _ rfl (.tmp 47) (.tmp 51) rfl rfl (ht4.alloc _) rfl (cell_new_at _ _ _ _ (by simp)) (by omega) ?_); intro A5 q5 x5 ho5 hg5; have z5 := (zt4.alloc zt4.size _).grown hg5 (by have := zt4.size; simp; omega) (fun k hk => ht4.block_le k hk); have uo := UB.on z5; have u0 := uo.c 0; have u1 := uo.c 1; have u2 := uo.c 2; simp at u0 u1 u2; obtain ⟨c0, c1, c2, c3, c4⟩ := kf0 (Shp.rd_on fb z5)))
  obtain ⟨g, hA, hg, hcell⟩ := ho5.at_ (by omega)
  subst hA
  have cJ := kjoin_any g q5 [D.sb [116], D.sb (D.dig x.p), D.sb (D.dig x.a), Nm.ts x.n, D.sb (D.tx x.t)] _ (fun j y hy => hcell j y hy) hg (by simp) (by have := ho5.cap; simp; omega) hns
  go_wp2_with (go_at_call 43; (with_reducible refine Calls.mono cJ ?_); rintro e w9 ⟨rfl, b9⟩)
  go_ret
  exact ⟨rfl, below_up zW zW.size (below_up z5 z5.size b9)⟩
theorem ktext_any (x : D.Ky) (w : World) : Calls Tryz.prog 18 #[.agg (kS.v x)] w fun e w' => e = .returned (.string (D.sb (D.ktx x))) ∧ Below w.heap.size w w' := by
  cases h : D.kright x with
  | false =>
    rw [D.ktx, h]
    exact ktext_no x w h
  | true =>
    have hR := kr_of h
    have i1 : D.ns (D.sb (D.dig x.p)) = D.dig x.p := ns_of (D.dig_lt (by have := hR.p; omega))
    have i2 : D.ns (D.sb (D.dig x.a)) = D.dig x.a := ns_of (D.dig_lt (by have := hR.a; omega))
    have i3 : D.ns (Nm.ts x.n) = Nm.D.txt x.n := ns_of D.ntx_lt
    have i4 : D.ns (D.sb (D.tx x.t)) = D.tx' x.t := ns_of D.tx_lt
    have hk := hR.k
    obtain hk | hk | hk | hk | hk | hk : x.k = 1 ∨ x.k = 2 ∨ x.k = 3 ∨ x.k = 4 ∨ x.k = 5 ∨ x.k = 6 := by omega
    · have e : D.kparts x = [[112], D.dig x.p] := by
        unfold D.kparts
        rw [hk]
        rfl
      have c := ktext_1 x w h hk
      rw [D.ktx, if_pos h, e]
      have i5 : D.ns (D.sb [112]) = [112] := rfl
      simp only [List.map_cons, List.map_nil, i1, i2, i3, i4, i5] at c
      exact c
    · have e : D.kparts x = [[103], D.dig x.p, D.dig x.a] := by
        unfold D.kparts
        rw [hk]
        rfl
      have c := ktext_2 x w h hk
      rw [D.ktx, if_pos h, e]
      have i5 : D.ns (D.sb [103]) = [103] := rfl
      simp only [List.map_cons, List.map_nil, i1, i2, i3, i4, i5] at c
      exact c
    · have e : D.kparts x = [[108], D.dig x.p, D.tx' x.t] := by
        unfold D.kparts
        rw [hk]
        rfl
      have c := ktext_3 x w h hk
      rw [D.ktx, if_pos h, e]
      have i5 : D.ns (D.sb [108]) = [108] := rfl
      simp only [List.map_cons, List.map_nil, i1, i2, i3, i4, i5] at c
      exact c
    · have e : D.kparts x = [[98], D.dig x.p, D.dig x.a] := by
        unfold D.kparts
        rw [hk]
        rfl
      have c := ktext_4 x w h hk
      rw [D.ktx, if_pos h, e]
      have i5 : D.ns (D.sb [98]) = [98] := rfl
      simp only [List.map_cons, List.map_nil, i1, i2, i3, i4, i5] at c
      exact c
    · have e : D.kparts x = [[115], D.dig x.p, D.dig x.a, Nm.D.txt x.n] := by
        unfold D.kparts
        rw [hk]
        rfl
      have c := ktext_5 x w h hk
      rw [D.ktx, if_pos h, e]
      have i5 : D.ns (D.sb [115]) = [115] := rfl
      simp only [List.map_cons, List.map_nil, i1, i2, i3, i4, i5] at c
      exact c
    · have e : D.kparts x = [[116], D.dig x.p, D.dig x.a, Nm.D.txt x.n, D.tx' x.t] := by
        unfold D.kparts
        rw [hk]
        rfl
      have c := ktext_6 x w h hk
      rw [D.ktx, if_pos h, e]
      have i5 : D.ns (D.sb [116]) = [116] := rfl
      simp only [List.map_cons, List.map_nil, i1, i2, i3, i4, i5] at c
      exact c

end Go.Proofs.YtjblepjkejihcaaGreatDoor
