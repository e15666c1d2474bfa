/-
  Next; the greatest time of a prefix's keys; what a nil store answers to Publish and Trim.
  A nil store has nothing.
  Writes, what is asked, calls that came in, opened.
-/
import Derived.Test.YteiikacgcfidmaaGreatDoorG36
import Derived.Test.YteiikacgcfidmaaGreatDoorG15
import Derived.ChangeSame
import Derived.Deep.Fields
import Derived.Deep.Slices
import Derived.OpenShut
import Derived.Test.YteiikacgcfidmaaGreatDoorG26
import Derived.Test.YteiikacgcfidmaaGreatDoorG08
set_option linter.unusedVariables false
set_option linter.unusedSimpArgs false
set_option maxRecDepth 100000
namespace Go.Proofs.YteiikacgcfidmaaGreatDoor
open Go.RowKit
attribute [local go_sem ↓] Go.wp_at_zero Go.wp_at_succ ld_k lv_k st_k eq_k ne_k bd_k ld_b lv_b st_b eq_b ne_b bd_25 ld_r lv_r st_rk eq_rk ne_rk bd_r ld_p lv_p st_px bd_p Nm.ld_a Nm.ld_n Nm.st_a Nm.st_n Nm.eq_a Nm.eq_n Nm.ne_a Nm.ne_n Nm.lv_a Nm.lv_n ld_a ld_n st_a st_n eq_a eq_n ne_a ne_n lv_a lv_n ld_l lv_l st_l bd_l bd_n bs_k ld_v lv_v st_v ne_v bd_v bs_v ld_rh ld_d lv_rh lv_d st_r st_d ne_rh eq_rh ne_d bd_rh bd_d ld_x lv_x st_x bd_x bs_x ld_e lv_e st_e bd_e bs_e ne_e
attribute [local go_sem] run_ldk run_lvk run_stk run_eqk run_nek run_bdk_z run_ldb run_lvb run_stb run_eqb run_neb run_ldr run_lvr run_strk run_eqrk run_nerk run_bdr_z run_ldp run_lvp run_stpx Nm.run_ld_a Nm.run_ld_n Nm.run_st_n Nm.run_eq_a Nm.run_eq_n Nm.run_ne_a Nm.run_ne_n Nm.run_lv_a Nm.run_lv_n Nm.rd_new Nm.rd_old Nm.rd_drew Nm.rd_drewN run_ld_a run_ld_n run_sw_a run_sw_n run_eq_a run_eq_n run_ne_a run_ne_n run_lv_a run_lv_n st_z ne_z eq_z rd_new rd_old rd_drew rd_drewN Shp.rd_new Shp.rd_old Shp.rd_drew Shp.rd_drewN Shp.rd_set Shp.tn_new Shp.tn_old Shp.tn_drew Shp.tn_drewN tn_new tn_old tn_drew tn_drewN rd_set setRow_alloc run_stn3 run_stt15 run_lvl run_ldl run_stl run_bdl run_bdn run_bdn0 run_bsk Shp.rd_extk cell_ext run_ldv run_lvv run_stv run_nev run_bdv_z run_bdv_d run_bdv_r run_bsv1 run_bsv0 run_ldrh run_ldd run_lvrh run_lvd run_str run_std run_nerh run_eqrh run_ned run_bdr0 run_bdd0 run_bdr1 run_bdd1 run_bdd9 run_ldx run_lvx run_stx run_lde run_lve run_bde run_bse1 run_bdv_3 Shp.rd_extk cell_ext
def D.Sm.nxt (M : D.Sm) (k : D.Ky) : Option D.Ky := M.ks.find? fun y => Cr.lt k y
theorem SC.nxt {base s g : Nat} {w : World} {o : Option Tk} {q : D.Ky → Qd} {lv : Int} {M : D.Sm} (h : SC base w s g o q lv M) (k : D.Ky) : Cr.nxt k (Cr.Tr.lso o) = M.nxt k := by
  rw [h.ls]
  unfold Cr.nxt D.Sm.nxt
  rw [List.find?_map]
  simp only [Option.map_map]
  have e : ((fun e : D.Ky × Vl => Cr.lt k e.1) ∘ fun y => (y, some (⟨(q y).b, 0, none⟩ : Addr))) = fun y => Cr.lt k y := rfl
  rw [e]
  cases M.ks.find? fun y => Cr.lt k y <;> rfl
end Go.Proofs.YteiikacgcfidmaaGreatDoor
set_option linter.unusedVariables false
set_option linter.unusedSimpArgs false
set_option maxRecDepth 100000
namespace Go.Proofs.YteiikacgcfidmaaGreatDoor
open Go.RowKit
/-- What key.Right answers: it was proved of keys. -/
theorem kr_all : KRt := fun x w => keyright_any x w
/-- What is asked: a prefix, a key, a time, how many. -/
structure D.Ask where
  p : Px
  k : Ky
  t : Nat
  m : Int
def qcells (x : D.Ask) : List Value := pcells x.p ++ (bys x.k.l ++ [.int .u64 (x.t : Nat), .int .i64 x.m])
theorem pc_len (x : D.Px) : (pcells x).length = 26 := by simp [pcells, bys_len, x.x.len]
def qS : Shp D.Ask := ⟨qcells, 53, by decide, fun x => by simp [qcells, pc_len, bys_len, x.k.len], fun {x y} h => by
  obtain ⟨p, k, t, m⟩ := x
  obtain ⟨p', k', t', m'⟩ := y
  have h1 := List.append_inj h (by simp [pc_len])
  have h2 := List.append_inj h1.2 (by simp [bys_len, D.Ky.len])
  obtain rfl := D.Ky.eq (bys_inj h2.1)
  have h3 := h2.2
  simp only [List.cons.injEq, Value.int.injEq, true_and, and_true, Int.ofNat_inj] at h3
  obtain ⟨rfl, rfl⟩ := h3
  have h4 : pS.v p = pS.v p' := congrArg List.toArray h1.1
  rw [pS.v_inj h4], fun x u hu => by
  rcases List.mem_append.1 hu with hu | hu
  · exact pS.one x.p u hu
  · rcases List.mem_append.1 hu with hu | hu
    · exact bys_one _ u hu
    · simp only [List.mem_cons, List.not_mem_nil, or_false] at hu
      rcases hu with rfl | rfl <;> rfl⟩
structure QF (w : World) (g : Nat) (x : D.Ask) : Prop where
  all : qS.rd w ⟨g, 0, none⟩ = some x
  p : pS.rd w ⟨g, 0, none⟩ = some x.p
  k : kS.rd w ⟨g, 26, none⟩ = some x.k
  t : w.cell? ⟨g, 51, none⟩ = some (.int .u64 (x.t : Nat))
  m : w.cell? ⟨g, 52, none⟩ = some (.int .i64 x.m)
theorem QF.of {w : World} {g : Nat} {x : D.Ask} (h : qS.rd w ⟨g, 0, none⟩ = some x) : QF w g x := by
  have hc : qS.At w ⟨g, 0, none⟩ x := Shp.at_of h
  have hp := pc_len x.p
  have hk : (bys x.k.l).length = 25 := by rw [bys_len, x.k.len]
  have c : ∀ j u, (qcells x)[j]? = some u → w.cell? ⟨g, j, none⟩ = some u := fun j u hu => by have := hc j u hu; rwa [add_o, Nat.zero_add] at this
  refine ⟨h, Shp.rd_of fun j u hu => ?_, Shp.rd_of fun j u hu => ?_, c 51 _ ?_, c 52 _ ?_⟩
  · rw [add_o, Nat.zero_add]
    have hu : (pcells x.p)[j]? = some u := hu
    exact c j u (by rw [qcells, List.getElem?_append_left (List.getElem?_eq_some_iff.1 hu).1, hu])
  · rw [add_o]
    have hu : (bys x.k.l)[j]? = some u := hu
    have hj := (List.getElem?_eq_some_iff.1 hu).1
    exact c (26 + j) u (by rw [qcells, List.getElem?_append_right (by omega), hp, Nat.add_sub_cancel_left, List.getElem?_append_left hj, hu])
  · rw [qcells, List.getElem?_append_right (by omega), hp, List.getElem?_append_right (by omega), hk]; rfl
  · rw [qcells, List.getElem?_append_right (by omega), hp, List.getElem?_append_right (by omega), hk]; rfl
theorem QF.on {w w' : World} {g : Nat} {x : D.Ask} (h : QF w g x) (hb : Below w.heap.size w w') : QF w' g x := .of (Shp.rd_on h.all hb)
section
variable (w : World) (k : D.Ky) (x : D.Px) (t : Nat) (m : Int)
end
attribute [local go_sem ↓] Go.wp_at_zero Go.wp_at_succ ld_k lv_k st_k eq_k ne_k bd_k ld_b lv_b st_b eq_b ne_b bd_25 ld_r lv_r st_rk eq_rk ne_rk bd_r ld_p lv_p st_px bd_p Nm.ld_a Nm.ld_n Nm.st_a Nm.st_n Nm.eq_a Nm.eq_n Nm.ne_a Nm.ne_n Nm.lv_a Nm.lv_n ld_a ld_n st_a st_n eq_a eq_n ne_a ne_n lv_a lv_n ld_l lv_l st_l bd_l bd_n bs_k ld_v lv_v st_v ne_v bd_v bs_v ld_rh ld_d lv_rh lv_d st_r st_d ne_rh eq_rh ne_d bd_rh bd_d ld_x lv_x st_x bd_x bs_x ld_e lv_e st_e bd_e bs_e ne_e
attribute [local go_sem] run_ldk run_lvk run_stk run_eqk run_nek run_bdk_z run_ldb run_lvb run_stb run_eqb run_neb run_ldr run_lvr run_strk run_eqrk run_nerk run_bdr_z run_ldp run_lvp run_stpx Nm.run_ld_a Nm.run_ld_n Nm.run_st_n Nm.run_eq_a Nm.run_eq_n Nm.run_ne_a Nm.run_ne_n Nm.run_lv_a Nm.run_lv_n Nm.rd_new Nm.rd_old Nm.rd_drew Nm.rd_drewN run_ld_a run_ld_n run_sw_a run_sw_n run_eq_a run_eq_n run_ne_a run_ne_n run_lv_a run_lv_n st_z ne_z eq_z rd_new rd_old rd_drew rd_drewN Shp.rd_new Shp.rd_old Shp.rd_drew Shp.rd_drewN Shp.rd_set Shp.tn_new Shp.tn_old Shp.tn_drew Shp.tn_drewN tn_new tn_old tn_drew tn_drewN rd_set setRow_alloc run_stn3 run_stt15 run_lvl run_ldl run_stl run_bdl run_bdn run_bdn0 run_bsk Shp.rd_extk cell_ext run_ldv run_lvv run_stv run_nev run_bdv_z run_bdv_d run_bdv_r run_bsv1 run_bsv0 run_ldrh run_ldd run_lvrh run_lvd run_str run_std run_nerh run_eqrh run_ned run_bdr0 run_bdd0 run_bdr1 run_bdd1 run_bdd9 run_ldx run_lvx run_stx run_lde run_lve run_bde run_bse1 run_bdv_3 Shp.rd_extk cell_ext
attribute [local go_sem] run_bsx1
end Go.Proofs.YteiikacgcfidmaaGreatDoor
set_option linter.unusedVariables false
set_option linter.unusedSimpArgs false
set_option maxRecDepth 100000
namespace Go.Proofs.YteiikacgcfidmaaGreatDoor
open Go.RowKit Go.ChangeShapes Go.WideShapes Go.Deep
theorem cut_at (cs : List Value) (i n : Nat) : cs.drop i = (cs.drop i).take n ++ cs.drop (i + n) := by
  rw [← List.drop_drop]; exact (List.take_append_drop _ _).symm
section
variable {H : Type} {enc : TypeId × Value → H} {w : World} {base : Nat} {spare : Nat → Bool} {held : Bool}
end
/-- A call that came in: is it Trim, the key, pins, writes. -/
structure Scv where
  t : Bool
  k : D.Ky
  Ap : Option Addr
  np : Nat
  cp : Nat
  A : Option Addr
  n : Nat
  c : Nat
/-- What is known of it: its writes. -/
def ScOk (w : World) (a : Scv) (l : List D.Wt) : Prop := Shp.Row xS w a.A a.n l ∧ (∀ x ∈ l, x.r.wf ∧ x.r.t.size ≤ maxLen) ∧ a.n ≤ maxLen
section
variable {H : Type} {enc : TypeId × Value → H} {w : World} {base : Nat} {spare : Nat → Bool} {held : Bool}
end
end Go.Proofs.YteiikacgcfidmaaGreatDoor
