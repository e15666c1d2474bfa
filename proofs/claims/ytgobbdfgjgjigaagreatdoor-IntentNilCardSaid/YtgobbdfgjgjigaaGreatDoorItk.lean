/-
  all, Owner, may of a table of keys' owners.
-/
import Derived.Test.YtgobbdfgjgjigaaGreatDoorImt
import Derived.IntWalk
set_option linter.unusedVariables false
set_option linter.unusedSimpArgs false
set_option maxRecDepth 100000
namespace Go.Proofs.YtgobbdfgjgjigaaGreatDoor
open Go.RowKit
attribute [local go_sem ↓] Go.wp_at_zero Go.wp_at_succ ld_k lv_k st_k eq_k ne_k bd_k Nm.ld_a Nm.ld_n Nm.st_a Nm.st_n Nm.eq_a Nm.eq_n Nm.ne_a Nm.ne_n Nm.lv_a Nm.lv_n ld_a ld_n st_a st_n eq_a eq_n ne_a ne_n lv_a lv_n
attribute [local go_sem] run_ldk run_lvk run_stk run_eqk run_nek run_bdk_z Nm.run_ld_a Nm.run_ld_n Nm.run_st_n Nm.run_eq_a Nm.run_eq_n Nm.run_ne_a Nm.run_ne_n Nm.run_lv_a Nm.run_lv_n Nm.rd_new Nm.rd_old Nm.rd_drew Nm.rd_drewN run_ld_a run_ld_n run_sw_a run_sw_n run_eq_a run_eq_n run_ne_a run_ne_n run_lv_a run_lv_n st_z ne_z eq_z rd_new rd_old rd_drew rd_drewN Shp.rd_new Shp.rd_old Shp.rd_drew Shp.rd_drewN Shp.rd_set Shp.tn_new Shp.tn_old Shp.tn_drew Shp.tn_drewN setRow_alloc run_stn3 run_stt15 bdk1 bdk2 bdk3 bdk4
theorem TabI.look {base p : Nat} {w : World} {M : Option Nat} {s : D.It} (h : TabI base w p M s) (x : D.Ky) : (Instr.lookup 31 (.map M) (.agg (kS.v x)) true).run Tryz.prog w = .ok (.tuple #[.int .i64 ((s.f x).getD 0), .bool (s.f x).isSome]) w := by
  cases M with
  | none =>
    obtain rfl := h.no rfl
    exact Maps.look_nil (P := Tryz.prog) (w := w) true law_k Tryz.underlying31 (zero_int w) (kkl_is x)
  | some b => exact (h.at_ b rfl).1.look x
theorem TabI.len {base p : Nat} {w : World} {M : Option Nat} {s : D.It} (h : TabI base w p M s) (ty : TypeId) : (Builtin.len_ #[31] ty #[.map M]).run Tryz.prog w = .ok (.int .i64 (s.n : Nat)) w := by
  cases M with
  | none =>
    obtain rfl := h.no rfl
    exact Maps.len_nil (P := Tryz.prog) (w := w) Tryz.underlying31 ty
  | some b => exact (h.at_ b rfl).1.len ty
theorem all_any {base p : Nat} {w : World} {M : Option Nat} {s : D.It} (h : TabI base w p M s) : Calls Tryz.prog 22 #[.pointer (some ⟨p, 0, none⟩)] w fun e w' => e = .returned (.map M) ∧ w = w' := by
  have c0 := h.blk.cell
  clear h
  go_enter Tryz.func22, Tryz.ntmps22
  go_wp2
  go_ret
  exact ⟨rfl, rfl⟩
theorem all_none (w : World) : Calls Tryz.prog 22 #[.pointer none] w fun e w' => e = .returned (.map none) ∧ w = w' := by
  go_enter Tryz.func22, Tryz.ntmps22
  go_wp2
  go_ret
  exact ⟨rfl, rfl⟩
set_option maxHeartbeats 1000000 in
/-- Owner, whatever the map is. -/
theorem owner_of {P0 : Option Addr} {M : Option Nat} {w : World} (x : D.Ky) (v : Int) (q : Bool) (hA : ∀ W, Below w.heap.size w W → Calls Tryz.prog 22 #[.pointer P0] W fun e w' => e = .returned (.map M) ∧ W = w')
    (hL : ∀ W, Below w.heap.size w W → (Instr.lookup 31 (.map M) (.agg (kS.v x)) true).run Tryz.prog W = .ok (.tuple #[.int .i64 v, .bool q]) W) :
    Calls Tryz.prog 10 #[.pointer P0, .agg (kS.v x)] w fun e w' => e = .returned (.tuple #[.int .i64 v, .bool q]) ∧ Below w.heap.size w w' := by
  have b1 := below_alloc_ w (.cells (kS.v x) 30)
  have f1 := Shp.rd_new (S := kS) w w.heap.size 30 x rfl
  obtain ⟨w0, hw0⟩ : ∃ w0, w.alloc (.cells (kS.v x) 30) = w0 := ⟨_, rfl⟩
  rw [hw0] at b1 f1
  have cB := Lib.hid (fun (W : World) (hW : Below w0.heap.size w0 W) => hA W (below_up b1 b1.size hW))
  have fB := Lib.hid (fun (W : World) (hW : Below w0.heap.size w0 W) => Shp.rd_on f1 hW)
  have lB := Lib.hid (fun (W : World) (hW : Below w0.heap.size w0 W) => hL W (below_up b1 b1.size hW))
  have HB := Lib.hid b1
  clear b1 f1 hA hL
  go_enter Tryz.func10, Tryz.ntmps10
  go_wp2_with fail
  try rw [hw0]
  clear hw0
  refine wp_region_noPanic ?_
  refine wp_region_held_drew (S := fun W => Below w0.heap.size w0 W) (by kernel_rfl) (Below.refl _ _).drew (fun _ => ?_)
  refine takeS 0 (some 9) ?v2 (by kernel_rfl) (by kernel_rfl) (by kernel_rfl) (by kernel_rfl) (fun _ _ _ h => h) (by rfl) ?hy2 (Below.refl _ _).drew ?rest2
  case hy2 => (intro o ho W hW; simp only [List.getElem?_toArray, List.getElem?_cons_succ, List.getElem?_cons_zero, Option.some.injEq] at ho; subst ho; (try dsimp only at hW); skip; go_simp; try rfl)
  try simp only [Act.put, List.setIfInBounds_toArray, List.set_cons_zero, List.set_cons_succ]
  refine takeS 2 (some 11) ?v3 (by kernel_rfl) (by kernel_rfl) (by kernel_rfl) (by kernel_rfl) (fun _ _ _ h => h) (by rfl) ?hy3 (Below.refl _ _).drew ?rest3
  case hy3 => (intro o ho W hW; simp only [List.getElem?_toArray, List.getElem?_cons_succ, List.getElem?_cons_zero, Option.some.injEq] at ho; subst ho; (try dsimp only at hW); have g2 := fB.out W hW; clear hW; go_simp; try rfl)
  try simp only [Act.put, List.setIfInBounds_toArray, List.set_cons_zero, List.set_cons_succ]
  refine nextS 1 (by kernel_rfl) (by rfl) (fun o ho K hK => ?_)
  simp only [List.getElem?_toArray, List.getElem?_cons_succ, List.getElem?_cons_zero, Option.some.injEq] at ho; subst ho
  go_simp
  go_at_call 22
  refine (cB.out _ (Below.refl _ _).drew).mono ?_
  rintro e w1 ⟨rfl, rfl⟩
  refine hK.out _ _ (Below.refl _ _).drew (fun _ => ?_)
  clear hK K
  try simp only [Act.put, List.setIfInBounds_toArray, List.set_cons_zero, List.set_cons_succ]
  refine takeS 3 (some 12) ?v6 (by kernel_rfl) (by kernel_rfl) (by kernel_rfl) (by kernel_rfl) (fun _ _ _ h => h) (by rfl) ?hy6 (Below.refl _ _).drew ?rest6
  case hy6 => (intro o ho W hW; simp only [List.getElem?_toArray, List.getElem?_cons_succ, List.getElem?_cons_zero, Option.some.injEq] at ho; subst ho; (try dsimp only at hW); have g3 := lB.out W hW; clear hW; go_simp; try rfl)
  try simp only [Act.put, List.setIfInBounds_toArray, List.set_cons_zero, List.set_cons_succ]
  refine takeS 4 (some 8) ?v7 (by kernel_rfl) (by kernel_rfl) (by kernel_rfl) (by kernel_rfl) (fun _ _ _ h => h) (by rfl) ?hy7 (Below.refl _ _).drew ?rest7
  case hy7 => (intro o ho W hW; simp only [List.getElem?_toArray, List.getElem?_cons_succ, List.getElem?_cons_zero, Option.some.injEq] at ho; subst ho; (try dsimp only at hW); skip; go_simp; try rfl)
  try simp only [Act.put, List.setIfInBounds_toArray, List.set_cons_zero, List.set_cons_succ]
  refine takeS 5 (some 13) ?v8 (by kernel_rfl) (by kernel_rfl) (by kernel_rfl) (by kernel_rfl) (fun _ _ _ h => h) (by rfl) ?hy8 (Below.refl _ _).drew ?rest8
  case hy8 => (intro o ho W hW; simp only [List.getElem?_toArray, List.getElem?_cons_succ, List.getElem?_cons_zero, Option.some.injEq] at ho; subst ho; (try dsimp only at hW); skip; go_simp; try rfl)
  try simp only [Act.put, List.setIfInBounds_toArray, List.set_cons_zero, List.set_cons_succ]
  refine takeS 6 (some 14) ?v9 (by kernel_rfl) (by kernel_rfl) (by kernel_rfl) (by kernel_rfl) (fun _ _ _ h => h) (by rfl) ?hy9 (Below.refl _ _).drew ?rest9
  case hy9 => (intro o ho W hW; simp only [List.getElem?_toArray, List.getElem?_cons_succ, List.getElem?_cons_zero, Option.some.injEq] at ho; subst ho; (try dsimp only at hW); skip; go_simp; try rfl)
  try simp only [Act.put, List.setIfInBounds_toArray, List.set_cons_zero, List.set_cons_succ]
  refine takeS 7 (some 6) ?v10 (by kernel_rfl) (by kernel_rfl) (by kernel_rfl) (by kernel_rfl) (fun _ _ _ h => h) (by rfl) ?hy10 (Below.refl _ _).drew ?rest10
  case hy10 => (intro o ho W hW; simp only [List.getElem?_toArray, List.getElem?_cons_succ, List.getElem?_cons_zero, Option.some.injEq] at ho; subst ho; (try dsimp only at hW); skip; go_simp; try rfl)
  try simp only [Act.put, List.setIfInBounds_toArray, List.set_cons_zero, List.set_cons_succ]
  refine takeS 8 (some 7) ?v11 (by kernel_rfl) (by kernel_rfl) (by kernel_rfl) (by kernel_rfl) (fun _ _ _ h => h) (by rfl) ?hy11 (Below.refl _ _).drew ?rest11
  case hy11 => (intro o ho W hW; simp only [List.getElem?_toArray, List.getElem?_cons_succ, List.getElem?_cons_zero, Option.some.injEq] at ho; subst ho; (try dsimp only at hW); skip; go_simp; try rfl)
  try simp only [Act.put, List.setIfInBounds_toArray, List.set_cons_zero, List.set_cons_succ]
  refine wpAnyH_done (by kernel_rfl) ?_ _
  refine NoPanic.normal ?_
  go_wp2
  refine bodyPost_ret (results_tmp2 rfl _ _ _) rfl ⟨rfl, ?_⟩
  exact below_up HB.out HB.out.size (Below.refl _ _).drew
end Go.Proofs.YtgobbdfgjgjigaaGreatDoor
