/-
  A nil store has nothing.
  Versions, rows of them, rows of numbers, calls that came in, opened.
  A key, its bytes, a prefix, a name, a tag and a slice of keys, that came in, opened.
-/
import Derived.Test.YteiikacgcfidmaaGreatDoorG33
import Derived.Test.YteiikacgcfidmaaGreatDoorG38
import Derived.Test.YteiikacgcfidmaaGreatDoorG21
import Derived.Deep.Slices
import Derived.Deep.Fields
import Derived.ChangeSame
import Derived.Test.YteiikacgcfidmaaGreatDoorG07
import Derived.OpenShut
set_option linter.unusedVariables false
set_option linter.unusedSimpArgs false
set_option maxRecDepth 100000
namespace Go.Proofs.YteiikacgcfidmaaGreatDoor
open Go.RowKit
/-- What key.Right answers: it was proved of keys. -/
theorem kr_all : KRt := fun x w => keyright_any x w
/-- What is asked: a prefix, a key, a time, how many. -/
structure D.Ask where
  p : Px
  k : Ky
  t : Nat
  m : Int
def qcells (x : D.Ask) : List Value := pcells x.p ++ (bys x.k.l ++ [.int .u64 (x.t : Nat), .int .i64 x.m])
theorem pc_len (x : D.Px) : (pcells x).length = 26 := by simp [pcells, bys_len, x.x.len]
def qS : Shp D.Ask := ⟨qcells, 53, by decide, fun x => by simp [qcells, pc_len, bys_len, x.k.len], fun {x y} h => by
  obtain ⟨p, k, t, m⟩ := x
  obtain ⟨p', k', t', m'⟩ := y
  have h1 := List.append_inj h (by simp [pc_len])
  have h2 := List.append_inj h1.2 (by simp [bys_len, D.Ky.len])
  obtain rfl := D.Ky.eq (bys_inj h2.1)
  have h3 := h2.2
  simp only [List.cons.injEq, Value.int.injEq, true_and, and_true, Int.ofNat_inj] at h3
  obtain ⟨rfl, rfl⟩ := h3
  have h4 : pS.v p = pS.v p' := congrArg List.toArray h1.1
  rw [pS.v_inj h4], fun x u hu => by
  rcases List.mem_append.1 hu with hu | hu
  · exact pS.one x.p u hu
  · rcases List.mem_append.1 hu with hu | hu
    · exact bys_one _ u hu
    · simp only [List.mem_cons, List.not_mem_nil, or_false] at hu
      rcases hu with rfl | rfl <;> rfl⟩
structure QF (w : World) (g : Nat) (x : D.Ask) : Prop where
  all : qS.rd w ⟨g, 0, none⟩ = some x
  p : pS.rd w ⟨g, 0, none⟩ = some x.p
  k : kS.rd w ⟨g, 26, none⟩ = some x.k
  t : w.cell? ⟨g, 51, none⟩ = some (.int .u64 (x.t : Nat))
  m : w.cell? ⟨g, 52, none⟩ = some (.int .i64 x.m)
theorem QF.of {w : World} {g : Nat} {x : D.Ask} (h : qS.rd w ⟨g, 0, none⟩ = some x) : QF w g x := by
  have hc : qS.At w ⟨g, 0, none⟩ x := Shp.at_of h
  have hp := pc_len x.p
  have hk : (bys x.k.l).length = 25 := by rw [bys_len, x.k.len]
  have c : ∀ j u, (qcells x)[j]? = some u → w.cell? ⟨g, j, none⟩ = some u := fun j u hu => by have := hc j u hu; rwa [add_o, Nat.zero_add] at this
  refine ⟨h, Shp.rd_of fun j u hu => ?_, Shp.rd_of fun j u hu => ?_, c 51 _ ?_, c 52 _ ?_⟩
  · rw [add_o, Nat.zero_add]
    have hu : (pcells x.p)[j]? = some u := hu
    exact c j u (by rw [qcells, List.getElem?_append_left (List.getElem?_eq_some_iff.1 hu).1, hu])
  · rw [add_o]
    have hu : (bys x.k.l)[j]? = some u := hu
    have hj := (List.getElem?_eq_some_iff.1 hu).1
    exact c (26 + j) u (by rw [qcells, List.getElem?_append_right (by omega), hp, Nat.add_sub_cancel_left, List.getElem?_append_left hj, hu])
  · rw [qcells, List.getElem?_append_right (by omega), hp, List.getElem?_append_right (by omega), hk]; rfl
  · rw [qcells, List.getElem?_append_right (by omega), hp, List.getElem?_append_right (by omega), hk]; rfl
theorem QF.on {w w' : World} {g : Nat} {x : D.Ask} (h : QF w g x) (hb : Below w.heap.size w w') : QF w' g x := .of (Shp.rd_on h.all hb)
section
variable (w : World) (k : D.Ky) (x : D.Px) (t : Nat) (m : Int)
theorem nread : Calls Tryz.prog 17 #[.pointer none, .agg (kS.v k), .int .u64 (t : Nat)] w fun e w' => e = .returned (.tuple #[.agg (rSh.v D.zRc), .bool false]) ∧ Below w.heap.size w w' := by
  have := sread_any (SO.nil w.heap.size w (Nat.le_refl _)) (by decide) k t
  exact this
theorem nnewest : Calls Tryz.prog 21 #[.pointer none, .agg (kS.v k)] w fun e w' => e = .returned (.int .u64 0) ∧ Below w.heap.size w w' := snewest_any (SO.nil w.heap.size w (Nat.le_refl _)) (by decide) k
theorem nlast : Calls Tryz.prog 16 #[.pointer none] w fun e w' => e = .returned (.int .u64 0) ∧ Below w.heap.size w w' := slast_any (SO.nil w.heap.size w (Nat.le_refl _))
theorem nlive : Calls Tryz.prog 19 #[.pointer none] w fun e w' => e = .returned (.int .i64 0) ∧ Below w.heap.size w w' := slive_any (SO.nil w.heap.size w (Nat.le_refl _))
theorem nvers : Calls Tryz.prog 20 #[.pointer none, .agg (pS.v x)] w fun e w' => e = .returned (.int .i64 0) ∧ Below w.heap.size w w' := svers_any (SO.nil w.heap.size w (Nat.le_refl _)) D.Sm.zero_wf (by decide) (by decide) x
theorem nnewin : Calls Tryz.prog 25 #[.pointer none, .agg (pS.v x)] w fun e w' => e = .returned (.int .u64 0) ∧ Below w.heap.size w w' := snewin_any (SO.nil w.heap.size w (Nat.le_refl _)) (by decide) (by decide) x
theorem nkeys : Calls Tryz.prog 27 #[.pointer none, .agg (pS.v x)] w fun e w' => ∃ A c, e = .returned (.slice A 0 c) ∧ Below w.heap.size w w' := (skeys_any (SO.nil w.heap.size w (Nat.le_refl _)) x).mono fun e w' ⟨A, c, h1, _, h2⟩ => ⟨A, c, h1, h2⟩
theorem nscan : Calls Tryz.prog 18 #[.pointer none, .agg (pS.v x), .int .u64 (t : Nat), .int .i64 m] w fun e w' => ∃ A c, e = .returned (.tuple #[.slice A 0 c, .bool false]) ∧ Below w.heap.size w w' := (sscan_any (SO.nil w.heap.size w (Nat.le_refl _)) (by decide) (by decide) x t m).mono fun e w' ⟨A, c, h1, _, h2⟩ => ⟨A, c, h1, h2⟩
theorem nnext : Calls Tryz.prog 23 #[.pointer none, .agg (kS.v k)] w fun e w' => e = .returned (.tuple #[.agg (kS.v D.zK), .bool false]) ∧ Below w.heap.size w w' := snext_any (SO.nil w.heap.size w (Nat.le_refl _)) k
end
attribute [local go_sem ↓] Go.wp_at_zero Go.wp_at_succ ld_k lv_k st_k eq_k ne_k bd_k ld_b lv_b st_b eq_b ne_b bd_25 ld_r lv_r st_rk eq_rk ne_rk bd_r ld_p lv_p st_px bd_p Nm.ld_a Nm.ld_n Nm.st_a Nm.st_n Nm.eq_a Nm.eq_n Nm.ne_a Nm.ne_n Nm.lv_a Nm.lv_n ld_a ld_n st_a st_n eq_a eq_n ne_a ne_n lv_a lv_n ld_l lv_l st_l bd_l bd_n bs_k ld_v lv_v st_v ne_v bd_v bs_v ld_rh ld_d lv_rh lv_d st_r st_d ne_rh eq_rh ne_d bd_rh bd_d ld_x lv_x st_x bd_x bs_x ld_e lv_e st_e bd_e bs_e ne_e
attribute [local go_sem] run_ldk run_lvk run_stk run_eqk run_nek run_bdk_z run_ldb run_lvb run_stb run_eqb run_neb run_ldr run_lvr run_strk run_eqrk run_nerk run_bdr_z run_ldp run_lvp run_stpx Nm.run_ld_a Nm.run_ld_n Nm.run_st_n Nm.run_eq_a Nm.run_eq_n Nm.run_ne_a Nm.run_ne_n Nm.run_lv_a Nm.run_lv_n Nm.rd_new Nm.rd_old Nm.rd_drew Nm.rd_drewN run_ld_a run_ld_n run_sw_a run_sw_n run_eq_a run_eq_n run_ne_a run_ne_n run_lv_a run_lv_n st_z ne_z eq_z rd_new rd_old rd_drew rd_drewN Shp.rd_new Shp.rd_old Shp.rd_drew Shp.rd_drewN Shp.rd_set Shp.tn_new Shp.tn_old Shp.tn_drew Shp.tn_drewN tn_new tn_old tn_drew tn_drewN rd_set setRow_alloc run_stn3 run_stt15 run_lvl run_ldl run_stl run_bdl run_bdn run_bdn0 run_bsk Shp.rd_extk cell_ext run_ldv run_lvv run_stv run_nev run_bdv_z run_bdv_d run_bdv_r run_bsv1 run_bsv0 run_ldrh run_ldd run_lvrh run_lvd run_str run_std run_nerh run_eqrh run_ned run_bdr0 run_bdd0 run_bdr1 run_bdd1 run_bdd9 run_ldx run_lvx run_stx run_lde run_lve run_bde run_bse1 run_bdv_3 Shp.rd_extk cell_ext
attribute [local go_sem] run_bsx1
set_option maxHeartbeats 16000000 in
theorem law_nil (q : D.Ask) (x : D.Wt) (w : World) : Calls Tryz.prog 8 #[.agg (qS.v q), .agg (xS.v x)] w fun e w' => e = .returned (.bool true) ∧ Below w.heap.size w w' := by
  have b0 : Below w.heap.size w ((w.alloc (.cells (qS.v q) 75)).alloc (.cells (xS.v x) 65)) := (below_alloc_ _ _).alloc (by simp) _
  have Q0 : QF ((w.alloc (.cells (qS.v q) 75)).alloc (.cells (xS.v x) 65)) w.heap.size q := .of (Shp.rd_on (Shp.rd_new _ _ _ _ rfl) (below_alloc_ _ _))
  have X0 : XF ((w.alloc (.cells (qS.v q) 75)).alloc (.cells (xS.v x) 65)) (w.heap.size + 1) x := .of (Shp.rd_new _ _ _ _ (by simp))
  obtain ⟨w0, hw0⟩ : ∃ w0, (w.alloc (.cells (qS.v q) 75)).alloc (.cells (xS.v x) 65) = w0 := ⟨_, rfl⟩
  rw [hw0] at b0 Q0 X0
  have HQ := Lib.hid Q0
  have HX := Lib.hid X0
  have HB := Lib.hid b0
  have f1 := Q0.k
  have f2 := Q0.t
  clear Q0 X0 b0
  go_enter Tryz.func8, Tryz.ntmps8
  go_wp2_with fail
  try rw [hw0]
  clear hw0
  go_wp2_with (first
    | (go_at_call 17; refine (nread _ q.k q.t).mono ?_; rintro e w1 ⟨rfl, b1⟩; have d1 := below_up b1 b1.size (below_alloc_ w1 (.cells (rSh.v D.zRc) 53)); have q1_ := HQ.out.on d1; have p1_ := q1_.p; have t1_ := q1_.t; have m1_ := q1_.m; clear q1_)
    | (go_at_call 18; refine (nscan _ q.p q.t q.m).mono ?_; rintro e w2 ⟨A2, c2, rfl, b2⟩; have d2 := below_up d1 d1.size b2; have q2_ := HQ.out.on d2; have k2_ := q2_.k; clear q2_)
    | (go_at_call 23; refine (nnext _ q.k).mono ?_; rintro e w3 ⟨rfl, b3⟩; have d3 := below_up (below_up d2 d2.size b3) (below_up d2 d2.size b3).size (below_alloc_ w3 (.cells (kS.v D.zK) 39)); have x3_ := (HX.out.on d3).all)
    | (go_at_call 15; refine (spub_nil _ _ _ _).mono ?_; rintro e w4 ⟨rfl, rfl⟩; have d4 := below_up d3 d3.size (below_alloc_ _ (.cells (xS.v x) 65)))
    | (go_at_call 10; refine (known_any kr_all _).mono ?_; rintro e w5 ⟨rfl, b5⟩; have d5 := below_up d4 d4.size b5; have x5_ := (HX.out.on d5).all)
    | (go_at_call 24; refine (sroom_nil _ _ _ _).mono ?_; rintro e w6 ⟨rfl, rfl⟩; have d6 := below_up d5 d5.size (below_alloc_ _ (.cells (xS.v x) 65)); have q6_ := HQ.out.on d6; have k6_ := q6_.k; clear q6_)
    | (go_at_call 21; refine (nnewest _ q.k).mono ?_; rintro e w7 ⟨rfl, b7⟩; have d7 := below_up d6 d6.size b7; have q7_ := HQ.out.on d7; have p7_ := q7_.p; clear q7_)
    | (go_at_call 25; refine (nnewin _ q.p).mono ?_; rintro e w8 ⟨rfl, b8⟩; have d8 := below_up d7 d7.size b8; have q8_ := HQ.out.on d8; have k8_ := q8_.k; have t8_ := q8_.t; clear q8_)
    | (go_at_call 26; refine (strim_nil _ q.k _ _ _).mono ?_; rintro e w9 ⟨rfl, b9⟩; have d9 := below_up (below_up d8 d8.size (below_alloc_ _ _)) (below_up d8 d8.size (below_alloc_ _ _)).size b9)
    | (go_at_call 16; refine (nlast _).mono ?_; rintro e w10 ⟨rfl, b10⟩; have d10 := below_up d9 d9.size b10)
    | (go_at_call 19; refine (nlive _).mono ?_; rintro e w11 ⟨rfl, b11⟩; have d11 := below_up d10 d10.size b11; have q11_ := HQ.out.on d11; have p11_ := q11_.p; clear q11_)
    | (go_at_call 20; refine (nvers _ q.p).mono ?_; rintro e w12 ⟨rfl, b12⟩; have d12 := below_up d11 d11.size b12; have q12_ := HQ.out.on d12; have p12_ := q12_.p; clear q12_)
    | (go_at_call 27; refine (nkeys _ q.p).mono ?_; rintro e w13 ⟨A13, c13, rfl, b13⟩; have d13 := below_up d12 d12.size b13))
  go_ret
  exact ⟨rfl, below_up HB.out HB.out.size d13⟩
end Go.Proofs.YteiikacgcfidmaaGreatDoor
set_option linter.unusedVariables false
set_option linter.unusedSimpArgs false
set_option maxRecDepth 100000
namespace Go.Proofs.YteiikacgcfidmaaGreatDoor
open Go.RowKit Go.ChangeShapes Go.WideShapes Go.Deep

theorem bnd_u8 {z : Int} (h : (Lit.int .u8 z).wf = true) : 0 ≤ z ∧ z < 256 := by
  simp [Lit.wf, IntKind.min, IntKind.max, IntKind.bits, IntKind.signed] at h; omega
theorem bnd_u32 {z : Int} (h : (Lit.int .u32 z).wf = true) : 0 ≤ z ∧ z < 4294967296 := by
  simp [Lit.wf, IntKind.min, IntKind.max, IntKind.bits, IntKind.signed] at h; omega
theorem bnd_u64 {z : Int} (h : (Lit.int .u64 z).wf = true) : 0 ≤ z ∧ z < 18446744073709551616 := by
  simp [Lit.wf, IntKind.min, IntKind.max, IntKind.bits, IntKind.signed] at h; omega
section
variable {H : Type} {enc : TypeId × Value → H} {w : World} {base : Nat} {spare : Nat → Bool} {held : Bool}
theorem open_rec {fuel : Nat} {cs : List Value} {x : DataW H × List MemPlace} (h : DataW.trod enc Tryz.prog w base spare held fuel 53 cs = some x) :
    ∃ r : D.Rc, cs = rcellsh r ∧ r.wf ∧ r.t.size ≤ maxLen := by
  obtain ⟨xs, n, _, _, hl, hx, hf⟩ := DataW.trod_struct Tryz.underlying53 h
  have hC : Tryz.prog.cellsOf 53 = 9 := by kernel_rfl
  have c8 : Tryz.prog.cellsOf 5 = 1 := by kernel_rfl
  have cb : Tryz.prog.cellsOf 4 = 1 := by kernel_rfl
  have c32 : Tryz.prog.cellsOf 51 = 1 := by kernel_rfl
  have c64 : Tryz.prog.cellsOf 44 = 1 := by kernel_rfl
  have cst : Tryz.prog.cellsOf 9 = 1 := by kernel_rfl
  rw [hC] at hl
  have h0 : DataW.trod enc Tryz.prog w base spare held n 5 ((cs.drop 0).take (Tryz.prog.cellsOf 5)) = xs[0]? := hf 0 _ rfl
  rw [c8] at h0
  have h1 : DataW.trod enc Tryz.prog w base spare held n 5 ((cs.drop 1).take (Tryz.prog.cellsOf 5)) = xs[1]? := hf 1 _ rfl
  rw [c8] at h1
  have h2 : DataW.trod enc Tryz.prog w base spare held n 5 ((cs.drop 2).take (Tryz.prog.cellsOf 5)) = xs[2]? := hf 2 _ rfl
  rw [c8] at h2
  have h3 : DataW.trod enc Tryz.prog w base spare held n 5 ((cs.drop 3).take (Tryz.prog.cellsOf 5)) = xs[3]? := hf 3 _ rfl
  rw [c8] at h3
  have h4 : DataW.trod enc Tryz.prog w base spare held n 5 ((cs.drop 4).take (Tryz.prog.cellsOf 5)) = xs[4]? := hf 4 _ rfl
  rw [c8] at h4
  have h5 : DataW.trod enc Tryz.prog w base spare held n 4 ((cs.drop 5).take (Tryz.prog.cellsOf 4)) = xs[5]? := hf 5 _ rfl
  rw [cb] at h5
  have h6 : DataW.trod enc Tryz.prog w base spare held n 51 ((cs.drop 6).take (Tryz.prog.cellsOf 51)) = xs[6]? := hf 6 _ rfl
  rw [c32] at h6
  have h7 : DataW.trod enc Tryz.prog w base spare held n 44 ((cs.drop 7).take (Tryz.prog.cellsOf 44)) = xs[7]? := hf 7 _ rfl
  rw [c64] at h7
  have h8 : DataW.trod enc Tryz.prog w base spare held n 9 ((cs.drop 8).take (Tryz.prog.cellsOf 9)) = xs[8]? := hf 8 _ rfl
  rw [cst] at h8
  match cs, hl with
  | [a0, a1, a2, a3, a4, a5, a6, a7, a8], _ =>
    have x0 : xs[0]? = some (xs[0]'(by rw [hx]; decide)) := List.getElem?_eq_getElem _
    rw [x0] at h0
    have x1 : xs[1]? = some (xs[1]'(by rw [hx]; decide)) := List.getElem?_eq_getElem _
    rw [x1] at h1
    have x2 : xs[2]? = some (xs[2]'(by rw [hx]; decide)) := List.getElem?_eq_getElem _
    rw [x2] at h2
    have x3 : xs[3]? = some (xs[3]'(by rw [hx]; decide)) := List.getElem?_eq_getElem _
    rw [x3] at h3
    have x4 : xs[4]? = some (xs[4]'(by rw [hx]; decide)) := List.getElem?_eq_getElem _
    rw [x4] at h4
    have x5 : xs[5]? = some (xs[5]'(by rw [hx]; decide)) := List.getElem?_eq_getElem _
    rw [x5] at h5
    have x6 : xs[6]? = some (xs[6]'(by rw [hx]; decide)) := List.getElem?_eq_getElem _
    rw [x6] at h6
    have x7 : xs[7]? = some (xs[7]'(by rw [hx]; decide)) := List.getElem?_eq_getElem _
    rw [x7] at h7
    have x8 : xs[8]? = some (xs[8]'(by rw [hx]; decide)) := List.getElem?_eq_getElem _
    rw [x8] at h8
    obtain ⟨z0, e0, _, w0⟩ := DataW.trod_int Tryz.underlying5 h0
    obtain ⟨z1, e1, _, w1⟩ := DataW.trod_int Tryz.underlying5 h1
    obtain ⟨z2, e2, _, w2⟩ := DataW.trod_int Tryz.underlying5 h2
    obtain ⟨z3, e3, _, w3⟩ := DataW.trod_int Tryz.underlying5 h3
    obtain ⟨z4, e4, _, w4⟩ := DataW.trod_int Tryz.underlying5 h4
    obtain ⟨z5, e5, _⟩ := DataW.trod_bool Tryz.underlying4 h5
    obtain ⟨z6, e6, _, w6⟩ := DataW.trod_int Tryz.underlying51 h6
    obtain ⟨z7, e7, _, w7⟩ := DataW.trod_int Tryz.underlying44 h7
    obtain ⟨z8, e8, _, w8⟩ := DataW.trod_string Tryz.underlying9 h8
    simp at e0 e1 e2 e3 e4 e5 e6 e7 e8
    subst e0 e1 e2 e3 e4 e5 e6 e7 e8
    have b0 := bnd_u8 w0
    have b1 := bnd_u8 w1
    have b2 := bnd_u8 w2
    have b3 := bnd_u8 w3
    have b4 := bnd_u8 w4
    have b6 := bnd_u32 w6
    have b7 := bnd_u64 w7
    refine ⟨⟨z0.toNat, z1.toNat, z2.toNat, z3.toNat, z4.toNat, z5, z6.toNat, z7.toNat, z8⟩, ?_, ⟨?_, ?_, ?_, ?_, ?_, ?_, ?_⟩, w8⟩
    · simp only [rcellsh]
      rw [Int.toNat_of_nonneg b0.1, Int.toNat_of_nonneg b1.1, Int.toNat_of_nonneg b2.1, Int.toNat_of_nonneg b3.1, Int.toNat_of_nonneg b4.1, Int.toNat_of_nonneg b6.1, Int.toNat_of_nonneg b7.1]
    all_goals (simp only; omega)
theorem open_u64s {fuel : Nat} {cs : List Value} {x : DataW H × List MemPlace} (h : DataW.trod enc Tryz.prog w base spare held fuel 47 cs = some x) :
    ∃ (A : Option Addr) (len cap : Nat) (l : List Nat), cs = [.slice A len cap] ∧ Row w A len (wds l) ∧ (∀ b ∈ l, b < 18446744073709551616) ∧ len ≤ cap ∧ cap ≤ maxLen := by
  rcases open_ints Tryz.underlying47 Tryz.underlying44 (by kernel_rfl) h with ⟨rfl, _⟩ | ⟨a, len, cap, zs, rfl, _, hl, hm, hz, _, hcell, hwz⟩
  · exact ⟨none, 0, 0, [], rfl, Row.nil _ _, by simp, Nat.le_refl _, by simp [maxLen]⟩
  · have hzl : len ≤ zs.length := by rw [hz]; split <;> omega
    refine ⟨some a, len, cap, (zs.take len).map Int.toNat, rfl, ⟨by simp [wds]; omega, fun hn => ⟨a, rfl, ?_, fun j u hu => ?_⟩⟩, ?_, hl, hm⟩
    · have := World.block_lt_of_cell? w _ (hcell 0 (by omega))
      rwa [block_of_add] at this
    · have hj : j < len := by
        have := (List.getElem?_eq_some_iff.1 hu).1
        simp [wds] at this
        omega
      have hq : zs[j]? = some (zs[j]'(by omega)) := List.getElem?_eq_getElem _
      rw [hcell j (by omega), List.getD_eq_getElem?_getD, hq]
      simp only [wds, List.getElem?_map, List.getElem?_take, if_pos hj, hq, Option.map_some] at hu
      rw [← hu]
      have := (bnd_u64 (hwz _ (List.getElem_mem (l := zs) (n := j) (by omega)))).1
      simp only [Option.getD_some]
      rw [Int.toNat_of_nonneg this]
    · intro b hb
      obtain ⟨z, hz', rfl⟩ := List.mem_map.1 hb
      have := bnd_u64 (hwz z (List.mem_of_mem_take hz'))
      omega
theorem open_shp {α : Type} (S : Shp α) (Pr : α → Prop) (z : α) {ST T : TypeId} (hu : Tryz.prog.underlying ST = some (.slice T)) (hC : Tryz.prog.cellsOf T = S.n)
    (hel : ∀ (fuel : Nat) (cs : List Value) (x : DataW H × List MemPlace), DataW.trod enc Tryz.prog w base spare held fuel T cs = some x → ∃ r : α, cs = S.cs r ∧ Pr r)
    {fuel : Nat} {cs : List Value} {x : DataW H × List MemPlace} (h : DataW.trod enc Tryz.prog w base spare held fuel ST cs = some x) :
    ∃ (A : Option Addr) (len cap : Nat) (l : List α), cs = [.slice A len cap] ∧ Shp.Row S w A len l ∧ (∀ r ∈ l, Pr r) ∧ len ≤ cap ∧ cap ≤ maxLen := by
  rcases open_slice hu h with ⟨rfl, _⟩ | ⟨a, len, cap, m, n, D', Pl, rfl, hb, hl, hm, hmm, _, hi⟩
  · exact ⟨none, 0, 0, [], rfl, Shp.Row.nil _ _, by simp, Nat.le_refl _, Nat.zero_le _⟩
  · have hlm : len ≤ m := by rw [hmm]; split <;> omega
    rw [hC] at hi
    have key : ∀ i, ∃ r : α, i < len → Pr r ∧ S.At w (a.add (i * S.n)) r := by
      intro i
      by_cases hlt : i < len
      · obtain ⟨cs', hc, ht⟩ := hi i (by omega)
        obtain ⟨r, rfl, hr⟩ := hel _ _ _ ht
        obtain ⟨_, _, hat⟩ := World.cells?_some hc
        refine ⟨r, fun _ => ⟨hr, fun j u hu => ?_⟩⟩
        have hj : j < S.n := by have := (List.getElem?_eq_some_iff.1 hu).1; rwa [S.len] at this
        have h1 := hat j (by omega)
        have h2 := (List.getElem?_eq_some_iff.1 hu).2
        rw [h1]
        simpa using hu
      · exact ⟨z, fun h => absurd h hlt⟩
    refine ⟨some a, len, cap, (List.range len).map fun i => Classical.choose (key i), rfl, ⟨by simp, fun hn => ⟨a, rfl, ?_, fun i y hy => ?_⟩⟩, ?_, hl, by omega⟩
    · have hu0 : (S.cs (Classical.choose (key 0)))[0]? = some ((S.cs (Classical.choose (key 0)))[0]'(by rw [S.len]; exact S.pos)) := List.getElem?_eq_getElem _
      have := World.block_lt_of_cell? w _ ((Classical.choose_spec (key 0) hn).2 0 _ hu0)
      rwa [block_of_add, block_of_add] at this
    · rw [List.getElem?_map] at hy
      have hlt : i < len := by
        rcases Nat.lt_or_ge i len with h | h
        · exact h
        · rw [List.getElem?_eq_none (by simp; omega)] at hy; simp at hy
      rw [List.getElem?_range hlt] at hy
      simp at hy
      subst hy
      exact (Classical.choose_spec (key i) hlt).2
    · intro r hr
      obtain ⟨i, hi', rfl⟩ := List.mem_map.1 hr
      exact (Classical.choose_spec (key i) (List.mem_range.1 hi')).1
end
end Go.Proofs.YteiikacgcfidmaaGreatDoor
set_option linter.unusedVariables false
set_option linter.unusedSimpArgs false
namespace Go.Proofs.YteiikacgcfidmaaGreatDoor
open Go.RowKit Go.ChangeShapes Go.WideShapes Go.Deep

section
variable {H : Type} {enc : TypeId × Value → H} {w : World} {base : Nat} {spare : Nat → Bool} {held : Bool}
theorem open_bytes (t : TypeId) (n : Nat) (hu : Tryz.prog.underlying t = some (.array n 5)) (hC : Tryz.prog.cellsOf t = n) {fuel : Nat} {cs : List Value} {x : DataW H × List MemPlace} (h : DataW.trod enc Tryz.prog w base spare held fuel t cs = some x) :
    ∃ l : List Nat, l.length = n ∧ (∀ b ∈ l, b < 256) ∧ cs = bys l := by
  obtain ⟨xs, m, _, _, hl, hx, hf⟩ := DataW.trod_array hu h
  rw [hC] at hl
  have key : ∀ i, ∃ b : Nat, i < n → b < 256 ∧ cs[i]? = some (.int .u8 b) := by
    intro i
    by_cases hi : i < n
    · have h1 := hf i hi
      rw [cells_u8, Nat.mul_one] at h1
      have x0 : xs[i]? = some (xs[i]'(by rw [hx]; exact hi)) := List.getElem?_eq_getElem _
      rw [x0] at h1
      obtain ⟨z, e0, _, w0⟩ := DataW.trod_int Tryz.underlying5 h1
      have hb := bounds_u8 w0
      refine ⟨z.toNat, fun _ => ⟨by omega, ?_⟩⟩
      rw [Int.toNat_of_nonneg hb.1]
      have : ((cs.drop i).take 1)[0]? = some (.int .u8 z) := by rw [e0]; rfl
      rwa [List.getElem?_take_of_lt (by omega), List.getElem?_drop, Nat.add_zero] at this
    · exact ⟨0, fun h => absurd h hi⟩
  refine ⟨(List.range n).map fun i => Classical.choose (key i), by simp, ?_, ?_⟩
  · intro b hb
    obtain ⟨i, hi, rfl⟩ := List.mem_map.1 hb
    exact (Classical.choose_spec (key i) (List.mem_range.1 hi)).1
  · apply List.ext_getElem?
    intro i
    by_cases hi : i < n
    · rw [(Classical.choose_spec (key i) hi).2]
      simp only [bys, List.map_map, List.getElem?_map]
      rw [List.getElem?_range hi]
      rfl
    · rw [List.getElem?_eq_none (by omega), List.getElem?_eq_none (by rw [bys_len]; simp; omega)]
theorem open_tag {fuel : Nat} {cs : List Value} {x : DataW H × List MemPlace} (h : DataW.trod enc Tryz.prog w base spare held fuel 37 cs = some x) : ∃ y : D.Tg, cs = bys y.l := by
  obtain ⟨xs, m, _, _, hl, hx, hf⟩ := DataW.trod_struct Tryz.underlying37 h
  have hC : Tryz.prog.cellsOf 37 = 10 := by kernel_rfl
  have hC3 : Tryz.prog.cellsOf 34 = 3 := by kernel_rfl
  have hC4 : Tryz.prog.cellsOf 35 = 4 := by kernel_rfl
  rw [hC] at hl
  have hx3 : xs.length = 3 := hx
  have h0 : DataW.trod enc Tryz.prog w base spare held m 34 ((cs.drop 0).take (Tryz.prog.cellsOf 34)) = xs[0]? := hf 0 _ rfl
  have h1 : DataW.trod enc Tryz.prog w base spare held m 35 ((cs.drop 3).take (Tryz.prog.cellsOf 35)) = xs[1]? := hf 1 _ rfl
  have h2 : DataW.trod enc Tryz.prog w base spare held m 34 ((cs.drop 7).take (Tryz.prog.cellsOf 34)) = xs[2]? := hf 2 _ rfl
  rw [hC3] at h0 h2
  rw [hC4] at h1
  rw [List.getElem?_eq_getElem (show 0 < xs.length by omega)] at h0
  rw [List.getElem?_eq_getElem (show 1 < xs.length by omega)] at h1
  rw [List.getElem?_eq_getElem (show 2 < xs.length by omega)] at h2
  obtain ⟨a, a1, a2, a3⟩ := open_bytes _ 3 Tryz.underlying34 hC3 h0
  obtain ⟨b, b1, b2, b3⟩ := open_bytes _ 4 Tryz.underlying35 hC4 h1
  obtain ⟨c, c1, c2, c3⟩ := open_bytes _ 3 Tryz.underlying34 hC3 h2
  refine ⟨⟨a ++ (b ++ c), by simp; omega, fun z hz => ?_⟩, ?_⟩
  · rcases List.mem_append.1 hz with hz | hz
    · exact a2 z hz
    · rcases List.mem_append.1 hz with hz | hz
      · exact b2 z hz
      · exact c2 z hz
  · rw [bys_app, bys_app, ← a3, ← b3, ← c3, List.drop_zero]
    have a1' : (cs.drop 7).take 3 = (cs.drop 3).drop 4 := by
      rw [List.drop_drop, List.take_of_length_le (by simp; omega)]
    rw [a1', List.take_append_drop, List.take_append_drop]
theorem open_name {fuel : Nat} {cs : List Value} {x : DataW H × List MemPlace} (h : DataW.trod enc Tryz.prog w base spare held fuel 33 cs = some x) : ∃ y : Nm.D.Nm, cs = bys y.l := by
  obtain ⟨l, h1, h2, h3⟩ := open_bytes _ 12 Tryz.underlying33 (by kernel_rfl) h
  exact ⟨⟨l, h1, h2⟩, h3⟩
theorem open_u8 {fuel : Nat} {cs : List Value} {x : DataW H × List MemPlace} (h : DataW.trod enc Tryz.prog w base spare held fuel 5 cs = some x) : ∃ b : Nat, b < 256 ∧ cs = [.int .u8 b] := by
  obtain ⟨z, e0, _, w0⟩ := DataW.trod_int Tryz.underlying5 h
  have hb := bounds_u8 w0
  exact ⟨z.toNat, by omega, by rw [Int.toNat_of_nonneg hb.1]; exact e0⟩
theorem list_cut (cs : List Value) (h : cs.length = 25) : cs = (cs.drop 0).take 1 ++ ((cs.drop 1).take 1 ++ ((cs.drop 2).take 1 ++ ((cs.drop 3).take 12 ++ (cs.drop 15).take 10))) := by
  match cs, h with
  | [a0, a1, a2, a3, a4, a5, a6, a7, a8, a9, a10, a11, a12, a13, a14, a15, a16, a17, a18, a19, a20, a21, a22, a23, a24], _ => rfl
theorem open_key {fuel : Nat} {cs : List Value} {x : DataW H × List MemPlace} (h : DataW.trod enc Tryz.prog w base spare held fuel 39 cs = some x) : ∃ y : D.Ky, cs = bys y.l := by
  obtain ⟨xs, m, _, _, hl, hx, hf⟩ := DataW.trod_struct Tryz.underlying39 h
  rw [c_key] at hl
  have hx5 : xs.length = 5 := hx
  have h0 : DataW.trod enc Tryz.prog w base spare held m 5 ((cs.drop 0).take (Tryz.prog.cellsOf 5)) = xs[0]? := hf 0 _ rfl
  have h1 : DataW.trod enc Tryz.prog w base spare held m 5 ((cs.drop 1).take (Tryz.prog.cellsOf 5)) = xs[1]? := hf 1 _ rfl
  have h2 : DataW.trod enc Tryz.prog w base spare held m 5 ((cs.drop 2).take (Tryz.prog.cellsOf 5)) = xs[2]? := hf 2 _ rfl
  have h3 : DataW.trod enc Tryz.prog w base spare held m 33 ((cs.drop 3).take (Tryz.prog.cellsOf 33)) = xs[3]? := hf 3 _ rfl
  have h4 : DataW.trod enc Tryz.prog w base spare held m 37 ((cs.drop 15).take (Tryz.prog.cellsOf 37)) = xs[4]? := hf 4 _ rfl
  rw [cells_u8] at h0 h1 h2
  rw [c_name] at h3
  rw [c_tag] at h4
  rw [List.getElem?_eq_getElem (show 0 < xs.length by omega)] at h0
  rw [List.getElem?_eq_getElem (show 1 < xs.length by omega)] at h1
  rw [List.getElem?_eq_getElem (show 2 < xs.length by omega)] at h2
  rw [List.getElem?_eq_getElem (show 3 < xs.length by omega)] at h3
  rw [List.getElem?_eq_getElem (show 4 < xs.length by omega)] at h4
  obtain ⟨b0, l0, e0⟩ := open_u8 h0
  obtain ⟨b1, l1, e1⟩ := open_u8 h1
  obtain ⟨b2, l2, e2⟩ := open_u8 h2
  obtain ⟨n, e3⟩ := open_name h3
  obtain ⟨t, e4⟩ := open_tag h4
  refine ⟨D.mkK b0 b1 b2 n t, ?_⟩
  rw [list_cut cs hl, e0, e1, e2, e3, e4]
  show _ = bys (b0 % 256 :: b1 % 256 :: b2 % 256 :: (n.l ++ t.l))
  rw [Nat.mod_eq_of_lt l0, Nat.mod_eq_of_lt l1, Nat.mod_eq_of_lt l2]
  simp [bys]
theorem open_prefix {fuel : Nat} {cs : List Value} {x : DataW H × List MemPlace} (h : DataW.trod enc Tryz.prog w base spare held fuel 41 cs = some x) : ∃ y : D.Px, cs = pcells y := by
  obtain ⟨xs, m, _, _, hl, hx, hf⟩ := DataW.trod_struct Tryz.underlying41 h
  rw [c_px] at hl
  have hx2 : xs.length = 2 := hx
  have h0 : DataW.trod enc Tryz.prog w base spare held m 39 ((cs.drop 0).take (Tryz.prog.cellsOf 39)) = xs[0]? := hf 0 _ rfl
  have h1 : DataW.trod enc Tryz.prog w base spare held m 3 ((cs.drop 25).take (Tryz.prog.cellsOf 3)) = xs[1]? := hf 1 _ rfl
  rw [c_key] at h0
  rw [c_int] at h1
  rw [List.getElem?_eq_getElem (show 0 < xs.length by omega)] at h0
  rw [List.getElem?_eq_getElem (show 1 < xs.length by omega)] at h1
  obtain ⟨y, e0⟩ := open_key h0
  obtain ⟨z, e1, _, w1⟩ := DataW.trod_int Tryz.underlying3 h1
  have hz : -9223372036854775808 ≤ z ∧ z ≤ 9223372036854775807 := by
    simp [Lit.wf, IntKind.min, IntKind.max, IntKind.bits, IntKind.signed] at w1
    omega
  refine ⟨⟨y, z, hz⟩, ?_⟩
  have : cs = (cs.drop 0).take 25 ++ (cs.drop 25).take 1 := by
    have h2 : (cs.drop 25).take 1 = cs.drop 25 := List.take_of_length_le (by simp; omega)
    rw [h2, List.drop_zero, List.take_append_drop]
  rw [this, e0, e1]
  rfl
end
end Go.Proofs.YteiikacgcfidmaaGreatDoor
