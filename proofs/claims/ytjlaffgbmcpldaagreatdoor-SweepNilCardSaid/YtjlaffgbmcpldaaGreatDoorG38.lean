/-
  
-/
import Derived.Test.YtjlaffgbmcpldaaGreatDoorG09
import Derived.Test.YtjlaffgbmcpldaaGreatDoorG35
import Derived.Test.YtjlaffgbmcpldaaGreatDoorG37
import Derived.Test.YtjlaffgbmcpldaaGreatDoorG27
import Derived.ChangeSame
import Derived.Deep.Fields
import Derived.Deep.Slices
import Derived.OpenShut
import Derived.Test.YtjlaffgbmcpldaaGreatDoorG18
import Derived.Test.YtjlaffgbmcpldaaGreatDoorG07
set_option linter.unusedVariables false
set_option linter.unusedSimpArgs false
set_option maxRecDepth 100000
namespace Go.Proofs.YtjlaffgbmcpldaaGreatDoor
open Go.RowKit
attribute [local go_sem ↓] Go.wp_at_zero Go.wp_at_succ ld_k lv_k st_k eq_k ne_k bd_k ld_b lv_b st_b eq_b ne_b bd_25 ld_r lv_r st_rk eq_rk ne_rk bd_r ld_p lv_p st_px bd_p Nm.ld_a Nm.ld_n Nm.st_a Nm.st_n Nm.eq_a Nm.eq_n Nm.ne_a Nm.ne_n Nm.lv_a Nm.lv_n ld_a ld_n st_a st_n eq_a eq_n ne_a ne_n lv_a lv_n
attribute [local go_sem] run_ldk run_lvk run_stk run_eqk run_nek run_bdk_z run_ldb run_lvb run_stb run_eqb run_neb run_ldr run_lvr run_strk run_eqrk run_nerk run_bdr_z run_ldp run_lvp run_stpx Nm.run_ld_a Nm.run_ld_n Nm.run_st_n Nm.run_eq_a Nm.run_eq_n Nm.run_ne_a Nm.run_ne_n Nm.run_lv_a Nm.run_lv_n Nm.rd_new Nm.rd_old Nm.rd_drew Nm.rd_drewN run_ld_a run_ld_n run_sw_a run_sw_n run_eq_a run_eq_n run_ne_a run_ne_n run_lv_a run_lv_n st_z ne_z eq_z rd_new rd_old rd_drew rd_drewN Shp.rd_new Shp.rd_old Shp.rd_drew Shp.rd_drewN Shp.rd_set Shp.tn_new Shp.tn_old Shp.tn_drew Shp.tn_drewN setRow_alloc run_stn3 run_stt15 bdk1 bdk2 bdk3 bdk4


theorem keyof_any (k p a : Int) (n : Nm.D.Nm) (t : D.Tg) (w : World) :
  Calls Tryz.prog 116 #[.int .i64 k, .int .i64 p, .int .i64 a, .agg (Nm.nc n), .agg (nc t)] w fun e w' => e = .returned (.tuple #[.agg (kS.v (D.kof k p a n t).1), .int .i64 (D.kof k p a n t).2]) ∧ Below w.heap.size w w' := key_of_gen right_any k p a n t w
theorem D.kright_eq (x : D.Ky) : D.kright x = (decide ((D.kof x.k x.p x.a x.n x.t).2 = 0) && kS.sm (D.kof x.k x.p x.a x.n x.t).1 x) := by
 rw [kS_sm]
 unfold D.kright D.kof
 by_cases h : D.err x.k x.p x.a x.n x.t = 0
 ·rw [if_pos h]; simp [h]
 ·rw [if_neg h]; simp [h]
set_option maxHeartbeats 2000000 in
theorem keyright_any (x : D.Ky) (w : World) : Calls Tryz.prog 82 #[.agg (kS.v x)] w fun e w' => e = .returned (.bool (D.kright x)) ∧ Below w.heap.size w w' := by
 have f0 := Shp.rd_new (S := kS) w _ 39 x rfl
 obtain ⟨c0, c1, c2, c3, c4⟩ := kf0 f0
 have l0 : (x.k : Int) < 256 := by have := x.k_lt; omega
 have l1 : (x.p : Int) < 256 := by have := x.p_lt; omega
 have l2 : (x.a : Int) < 256 := by have := x.a_lt; omega
 have cO := keyof_any x.k x.p x.a x.n x.t
 have hr := D.kright_eq x
 obtain ⟨⟨y, e⟩, he⟩ : ∃ q, D.kof x.k x.p x.a x.n x.t = q := ⟨_, rfl⟩
 rw [he] at cO hr
 simp only at cO hr
 have CO := Lib.hid cO
 clear cO he
 by_cases h : e = 0
 ·have HR := Lib.hid (show D.kright x = kS.sm y x by rw [hr]; simp [h])
  clear hr
  subst h
  go_enter Tryz.func82, Tryz.ntmps82
  go_wp2_with (go_at_call 116; (with_reducible refine (CO.out _).mono ?_); rintro e w1 ⟨rfl, b1⟩; have f1 := Shp.rd_on f0 b1; have s1 : w.heap.size < w1.heap.size := by have := b1.size; simp at this; omega)
  go_ret
  exact ⟨by rw [HR.out]; rfl, (below_up (below_alloc_ _ _) (by simp) b1).alloc (by omega) _⟩
 ·have HR := Lib.hid (show D.kright x = false by rw [hr]; simp [h])
  clear hr
  go_enter Tryz.func82, Tryz.ntmps82
  go_wp2_with (go_at_call 116; (with_reducible refine (CO.out _).mono ?_); rintro e w1 ⟨rfl, b1⟩; have f1 := Shp.rd_on f0 b1; have s1 : w.heap.size < w1.heap.size := by have := b1.size; simp at this; omega)
  go_ret
  exact ⟨by rw [HR.out]; rfl, (below_up (below_alloc_ _ _) (by simp) b1).alloc (by omega) _⟩
end Go.Proofs.YtjlaffgbmcpldaaGreatDoor
namespace Go.Proofs.YtjlaffgbmcpldaaGreatDoor
open Go.RowKit
theorem kr_all : KRt := fun x w => keyright_any x w
structure D.Ask where
 p : Px
 k : Ky
 t : Nat
 m : Int
def qcells (x : D.Ask) : List Value := pcells x.p ++ (bys x.k.l ++ [.int .u64 (x.t : Nat), .int .i64 x.m])
theorem pc_len (x : D.Px) : (pcells x).length = 26 := by simp [pcells, bys_len, x.x.len]
def qS : Shp D.Ask := ⟨qcells, 53, by decide, fun x => by simp [qcells, pc_len, bys_len, x.k.len], fun {x y} h => by
 obtain ⟨p, k, t, m⟩ := x
 obtain ⟨p', k', t', m'⟩ := y
 have h1 := List.append_inj h (by simp [pc_len])
 have h2 := List.append_inj h1.2 (by simp [bys_len, D.Ky.len])
 obtain rfl := D.Ky.eq (bys_inj h2.1)
 have h3 := h2.2
 simp only [List.cons.injEq, Value.int.injEq, true_and, and_true, Int.ofNat_inj] at h3
 obtain ⟨rfl, rfl⟩ := h3
 have h4 : pS.v p = pS.v p' := congrArg List.toArray h1.1
 rw [pS.v_inj h4], fun x u hu => by
 rcases List.mem_append.1 hu with hu | hu
 ·exact pS.one x.p u hu
 ·rcases List.mem_append.1 hu with hu | hu
  ·exact bys_one _ u hu
  ·simp only [List.mem_cons, List.not_mem_nil, or_false] at hu
   rcases hu with rfl | rfl <;> rfl⟩
structure QF (w : World) (g : Nat) (x : D.Ask) : Prop where
 all : qS.rd w ⟨g, 0, none⟩ = some x
 p : pS.rd w ⟨g, 0, none⟩ = some x.p
 k : kS.rd w ⟨g, 26, none⟩ = some x.k
 t : w.cell? ⟨g, 51, none⟩ = some (.int .u64 (x.t : Nat))
 m : w.cell? ⟨g, 52, none⟩ = some (.int .i64 x.m)
theorem QF.of {w : World} {g : Nat} {x : D.Ask} (h : qS.rd w ⟨g, 0, none⟩ = some x) : QF w g x := by
 have hc : qS.At w ⟨g, 0, none⟩ x := Shp.at_of h
 have hp := pc_len x.p
 have hk : (bys x.k.l).length = 25 := by rw [bys_len, x.k.len]
 have c : ∀ j u, (qcells x)[j]? = some u → w.cell? ⟨g, j, none⟩ = some u := fun j u hu => by have := hc j u hu; rwa [add_o, Nat.zero_add] at this
 refine ⟨h, Shp.rd_of fun j u hu => ?_, Shp.rd_of fun j u hu => ?_, c 51 _ ?_, c 52 _ ?_⟩
 ·rw [add_o, Nat.zero_add]
  have hu : (pcells x.p)[j]? = some u := hu
  exact c j u (by rw [qcells, List.getElem?_append_left (List.getElem?_eq_some_iff.1 hu).1, hu])
 ·rw [add_o]
  have hu : (bys x.k.l)[j]? = some u := hu
  have hj := (List.getElem?_eq_some_iff.1 hu).1
  exact c (26 + j) u (by rw [qcells, List.getElem?_append_right (by omega), hp, Nat.add_sub_cancel_left, List.getElem?_append_left hj, hu])
 ·rw [qcells, List.getElem?_append_right (by omega), hp, List.getElem?_append_right (by omega), hk]; rfl
 ·rw [qcells, List.getElem?_append_right (by omega), hp, List.getElem?_append_right (by omega), hk]; rfl
theorem QF.on {w w' : World} {g : Nat} {x : D.Ask} (h : QF w g x) (hb : Below w.heap.size w w') : QF w' g x := .of (Shp.rd_on h.all hb)
section
variable (w : World) (k : D.Ky) (x : D.Px) (t : Nat) (m : Int)
end
end Go.Proofs.YtjlaffgbmcpldaaGreatDoor
namespace Go.Proofs.YtjlaffgbmcpldaaGreatDoor
open Go.RowKit Go.ChangeShapes Go.WideShapes Go.Deep
theorem cut_at (cs : List Value) (i n : Nat) : cs.drop i = (cs.drop i).take n ++ cs.drop (i + n) := by
 rw [← List.drop_drop]; exact (List.take_append_drop _ _).symm
section
variable {H : Type} {enc : TypeId × Value → H} {w : World} {base : Nat} {spare : Nat → Bool} {held : Bool}
end
structure Scv where
 t : Bool
 k : D.Ky
 Ap : Option Addr
 np : Nat
 cp : Nat
 A : Option Addr
 n : Nat
 c : Nat
def ScOk (w : World) (a : Scv) (l : List D.Wt) : Prop := Shp.Row xS w a.A a.n l ∧ (∀ x ∈ l, x.r.wf ∧ x.r.t.size ≤ maxLen) ∧ a.n ≤ maxLen
section
variable {H : Type} {enc : TypeId × Value → H} {w : World} {base : Nat} {spare : Nat → Bool} {held : Bool}
end
end Go.Proofs.YtjlaffgbmcpldaaGreatDoor
namespace Go.Proofs.YtjlaffgbmcpldaaGreatDoor
open Go.RowKit
theorem ScOk.on {w w' : World} {a : Scv} {l : List D.Wt} (h : ScOk w a l) (hb : Below w.heap.size w w') : ScOk w' a l := ⟨h.1.on hb, h.2⟩
namespace D
def bk (p a : Nat) : Ky := mkK 4 p a Nm.D.zero zero
def br (t : Nat) : Rc := ⟨4, 0, 0, 0, 0, false, 0, t, ⟨#[]⟩⟩
def bx (p a t : Nat) : Wt := ⟨bk p a, false, br t⟩
end D

theorem run_bdk_b (w : World) (p q : Nat) (hp : p < 256) (hq : q < 256) : (bdk #[(0, .int .u8 4), (1, .int .u8 (p : Int)), (2, .int .u8 (q : Int))]).run Tryz.prog w = .ok (.agg (kS.v (D.bk p q))) w := run_bdk_3 w 4 p q (by decide) hp hq
theorem m4 (i : Int) : ∃ p : Nat, p < 4 ∧ (IntKind.u64.wrap i).tmod 4 % 256 = (p : Int) := by
 rw [IntKind.wrap_u64, Int.tmod_eq_emod_of_nonneg (by omega)]
 exact ⟨(i % 18446744073709551616 % 4 % 256).toNat, by omega, by omega⟩
theorem run_bdr_at (w : World) (t : Nat) : (bdrh #[(0, .int .u8 4), (7, .int .u64 (t : Nat))]).run Tryz.prog w = .ok (.agg (rSh.v (D.br t))) w := by
 simp [bdrh, rv_eq, D.br, Instr.build, go_sem]

end Go.Proofs.YtjlaffgbmcpldaaGreatDoor
