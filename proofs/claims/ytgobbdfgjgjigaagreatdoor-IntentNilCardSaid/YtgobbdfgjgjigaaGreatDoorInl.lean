/-
  A nil table: what its functions tell.
-/
import Derived.Test.YtgobbdfgjgjigaaGreatDoorIkn
import Derived.Test.YtgobbdfgjgjigaaGreatDoorLayg
import Derived.RangeFuncNested
set_option linter.unusedVariables false
set_option linter.unusedSimpArgs false
set_option maxRecDepth 100000
namespace Go.Proofs.YtgobbdfgjgjigaaGreatDoor
open Go.RowKit
theorem results_ct {fn : Func} {p q : Tmp} {ty : TypeId} (h : fn.results = #[.cell p ty, .tmp q]) (tmps : Array Value) (P : Program) (w : World) :
    (results fn tmps).run P w = ((asAddr (tmps.getD p undef)).run P w).andThen fun a w1 => ((loadVar ty a).run P w1).andThen fun u w2 => .ok (.tuple #[u, tmps.getD q undef]) w2 := by
  simp only [results, h]
  simp [Sem.run_bind, Result.andThen]
theorem lvk_rd {w : World} {a : Addr} {x : D.Ky} (h : kS.rd w a = some x) : (loadVar 30 a).run Tryz.prog w = .ok (.agg (kS.v x)) w := (run_lvk w a).trans (by rw [h]; rfl)
attribute [local go_sem ↓] Go.wp_at_zero Go.wp_at_succ ld_k lv_k st_k eq_k ne_k bd_k Nm.ld_a Nm.ld_n Nm.st_a Nm.st_n Nm.eq_a Nm.eq_n Nm.ne_a Nm.ne_n Nm.lv_a Nm.lv_n ld_a ld_n st_a st_n eq_a eq_n ne_a ne_n lv_a lv_n
attribute [local go_sem] run_ldk run_lvk run_stk run_eqk run_nek run_bdk_z Nm.run_ld_a Nm.run_ld_n Nm.run_st_n Nm.run_eq_a Nm.run_eq_n Nm.run_ne_a Nm.run_ne_n Nm.run_lv_a Nm.run_lv_n Nm.rd_new Nm.rd_old Nm.rd_drew Nm.rd_drewN run_ld_a run_ld_n run_sw_a run_sw_n run_eq_a run_eq_n run_ne_a run_ne_n run_lv_a run_lv_n st_z ne_z eq_z rd_new rd_old rd_drew rd_drewN Shp.rd_new Shp.rd_old Shp.rd_drew Shp.rd_drewN Shp.rd_set Shp.tn_new Shp.tn_old Shp.tn_drew Shp.tn_drewN setRow_alloc run_stn3 run_stt15 bdk1 bdk2 bdk3 bdk4
attribute [local go_sem ↓] bsk_k
attribute [local go_sem] run_bsk1 run_bsk2
theorem len_nil (w : World) : Calls Tryz.prog 16 #[.pointer none] w fun e w' => e = .returned (.int .i64 0) ∧ w = w' := by
  have CA := Lib.hid (fun W => all_none W)
  have hlen := fun W ty => Maps.len_nil (P := Tryz.prog) (w := W) Tryz.underlying31 ty
  go_enter Tryz.func16, Tryz.ntmps16
  go_wp2_with (go_at_call 22; (with_reducible refine (CA.out _).mono ?_); rintro e w1 ⟨rfl, rfl⟩)
  go_ret
  exact ⟨rfl, rfl⟩
set_option maxHeartbeats 2000000 in
theorem drop_nil {w : World} (o : Int) {A : Option Addr} {n c : Nat} {l : List D.Ky} (hl : Shp.Row kS w A n l) (hn : n ≤ 1000) :
    Calls Tryz.prog 8 #[.pointer none, .int .i64 o, .slice A n c] w fun e w' => e = .returned (.int .i64 0) ∧ Below w.heap.size w w' := by
  have HR := Lib.hid hl
  have CO := Lib.hid (fun W x => owner_nil W x)
  clear hl
  go_enter Tryz.func8, Tryz.ntmps8
  go_wp2
  go_loopw [7, 14] (fun m i wr => ∃ k : Nat, k ≤ n ∧ m = .int .i64 0 ∧ i = .int .i64 k ∧ Hid (Below w.heap.size w wr)) (fun _ i _ => n - (intOf i).toNat)
  case atStart => exact ⟨0, Nat.zero_le _, rfl, rfl, Lib.hid (Below.refl _ _)⟩
  case round =>
    obtain ⟨k, hk, rfl, rfl, HB⟩ := hrel
    by_cases hlt : k < n
    · obtain ⟨x, hx⟩ : ∃ x, l[k]? = some x := ⟨_, List.getElem?_eq_getElem (by rw [HR.out.len]; exact hlt)⟩
      obtain ⟨ad, rfl, hadl, hr⟩ := (HR.out.on HB.out).rd hx
      have i1 : (k : Int) < (n : Int) := by omega
      have i0 : (0 : Int) ≤ (k : Int) := by omega
      have hr2 : kS.rd wr (ad.add (k * 25)) = some x := hr
      have bW := below_alloc_ wr (.cells (kS.v x) 30)
      have f1 := Shp.rd_new (S := kS) wr wr.heap.size 30 x rfl
      obtain ⟨W1, hW1⟩ : ∃ W1, wr.alloc (.cells (kS.v x) 30) = W1 := ⟨_, rfl⟩
      rw [hW1] at f1 bW
      have HB1 := Lib.hid (below_up HB.out HB.out.size bW)
      clear hx hr bW
      go_wp2_with fail
      try rw [hW1]
      clear hW1
      go_wp2_with (go_at_call 10; (with_reducible refine (CO.out _ _).mono ?_); rintro e w2 ⟨rfl, b2⟩; have HB2 := Lib.hid (below_up HB1.out HB1.out.size b2); clear b2)
      go_roundw
      case rel => exact ⟨k + 1, by omega, rfl, by go_num, HB2⟩
      case measure => simp [intOf]; omega
    · have i1 : (n : Int) ≤ (k : Int) := by omega
      go_wp2
      go_ret
      exact ⟨rfl, HB.out⟩
set_option maxHeartbeats 2000000 in
theorem first_nil (w : World) (o : Int) : Calls Tryz.prog 12 #[.pointer none, .int .i64 o] w fun e w' => e = .returned (.tuple #[.agg (kS.v D.zK), .bool false]) ∧ Below w.heap.size w w' := by
  have CA := Lib.hid (fun W => all_none W)
  have b0 := below_alloc_ w (.cells z25 30)
  have B0 := Blk.new w 30 z25
  obtain ⟨w0, hw0⟩ : ∃ w0, w.alloc (.cells z25 30) = w0 := ⟨_, rfl⟩
  rw [hw0] at b0 B0
  have r1 := Shp.rd_new (S := kS) w0 w0.heap.size 30 D.zK rfl
  have b1 := below_alloc_ w0 (.cells (kS.v D.zK) 30)
  have B1 := B0.alloc (.cells (kS.v D.zK) 30)
  obtain ⟨w1, hw1⟩ : ∃ w1, w0.alloc (.cells (kS.v D.zK) 30) = w1 := ⟨_, rfl⟩
  rw [hw1] at r1 b1 B1
  have hrg := run_range_nilMap (P := Tryz.prog) w1 31 30 3 Tryz.underlying31
  have hnx : ∀ ty, (Instr.next (.pointer (some ⟨w1.heap.size, 0, none⟩)) false ty).run Tryz.prog (w1.alloc (.mapIter none 0 #[] 0)) = _ := fun ty => run_next_nilMap _ ty 0 0 #[]
  have b2 := below_alloc_ w1 (.mapIter none 0 #[] 0)
  have r2 := Shp.rd_on r1 b2
  have B2 := B1.on b2
  have t2 : Shp.tn 25 (w1.alloc (.mapIter none 0 #[] 0)) w.heap.size = true := Shp.tn_of B2 rfl
  have hB := Lib.hid (below_up (below_up b0 b0.size b1) (Nat.le_trans b0.size b1.size) b2)
  clear b0 b1 b2 B0 B1 B2 r1
  unfold z25 at hw0
  go_enter Tryz.func12, Tryz.ntmps12
  go_wp2_with fail
  try simp only [hw0]
  try simp only [hw1]
  go_wp2_with (go_at_call 22; (with_reducible refine (CA.out _).mono ?_); rintro e w1 ⟨rfl, rfl⟩)
  refine wp_loop_rounds 1 ?_
  rw [rounds_succ]
  go_wp2
  refine bodyPost_ret (v := .tuple #[.agg (kS.v D.zK), .bool false]) (by rw [results_ct rfl]; simp [asAddr, Result.andThen, lvk_rd (Shp.rd_set (S := kS) _ _ D.zK t2)]) rfl ⟨rfl, bel_setRow hB.out (Nat.le_refl _) _⟩
theorem below_grow (w : World) (os : Array Obj) : Below w.heap.size w (Sort.grow w os) := ⟨rfl, rfl, rfl, by simp, fun k hk => Sort.heap_grow_old w os hk⟩
noncomputable def siT : TypeInfo := (Tryz.prog.info? 58).get (by kernel_rfl)
noncomputable def siE : TypeInfo := (Tryz.prog.info? 30).get (by kernel_rfl)
/-- sort.Slice of none. -/
theorem slice_nil (lf : Fn) (la lb : Array Value) (w : World) : Calls Tryz.prog 24 #[.iface 58 (.slice none 0 0), .func lf la lb] w fun e w' => e = .returned (.tuple #[]) ∧ Below w.heap.size w w' := by
  have hK : Lib.swapperK 0 siE 25 = 1 := by simp [Lib.swapperK]
  refine (Any.sort_Slice_tiny sl6 58 30 siT siE (by kernel_rfl) (by kernel_rfl) (by kernel_rfl) (by kernel_rfl) 25 (fun _ => by kernel_rfl) none 0 0 (by omega) 48 (by rw [hK]; kernel_rfl) lf la lb w).mono ?_
  rintro e w' ⟨rfl, os, rfl⟩
  exact ⟨rfl, below_grow _ _⟩
set_option maxHeartbeats 2000000 in
theorem of_nil (w : World) (o : Int) : Calls Tryz.prog 15 #[.pointer none, .int .i64 o] w fun e w' => e = .returned (.slice none 0 0) ∧ Below w.heap.size w w' := by
  have CA := Lib.hid (fun W => all_none W)
  have CS := Lib.hid (fun lf la lb W => slice_nil lf la lb W)
  have b0 := below_alloc_ w (.cells #[.slice none 0 0] 58)
  have B0 := Blk.new w 58 #[.slice none 0 0]
  obtain ⟨w0, hw0⟩ : ∃ w0, w.alloc (.cells #[.slice none 0 0] 58) = w0 := ⟨_, rfl⟩
  rw [hw0] at b0 B0
  have hrg := run_range_nilMap (P := Tryz.prog) w0 31 30 3 Tryz.underlying31
  have hnx : ∀ ty, (Instr.next (.pointer (some ⟨w0.heap.size, 0, none⟩)) false ty).run Tryz.prog (w0.alloc (.mapIter none 0 #[] 0)) = _ := fun ty => run_next_nilMap _ ty 0 0 #[]
  have b2 := below_alloc_ w0 (.mapIter none 0 #[] 0)
  have B2 := B0.on b2
  have c2 := B2.cell
  have HB := Lib.hid (below_up b0 b0.size b2)
  have HB2 := Lib.hid B2
  clear b0 b2 B0 B2
  go_enter Tryz.func15, Tryz.ntmps15
  go_wp2_with fail
  try simp only [hw0]
  go_wp2_with (go_at_call 22; (with_reducible refine (CA.out _).mono ?_); rintro e w1 ⟨rfl, rfl⟩)
  refine wp_loop_rounds 1 ?_
  rw [rounds_succ]
  go_wp2_with (go_at_call 24; (with_reducible refine (CS.out _ _ _ _).mono ?_); rintro e w3 ⟨rfl, b3⟩; have c3 := (HB2.out.on b3).cell; have HB3 := Lib.hid (below_up HB.out HB.out.size b3); clear b3)
  go_ret
  exact ⟨rfl, HB3.out⟩
end Go.Proofs.YtgobbdfgjgjigaaGreatDoor
