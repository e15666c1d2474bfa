/-
  Split: keys in groups, each by its prefix of depth 3.
-/
import Derived.Test.YtjblepjkejihcaaGreatDoorKgr
import Derived.Test.YtjblepjkejihcaaGreatDoorKrt
import Derived.Test.YtjblepjkejihcaaGreatDoorKls
import Derived.Test.YtjblepjkejihcaaGreatDoorGf
set_option linter.unusedVariables false
set_option linter.unusedSimpArgs false
set_option maxRecDepth 100000
namespace Go.Proofs.YtjblepjkejihcaaGreatDoor
open Go.RowKit
open Go.ChangeMaps (setBlock)
attribute [local go_sem ↓] Go.wp_at_zero Go.wp_at_succ ld_k lv_k st_k eq_k ne_k bd_k ld_b lv_b st_b eq_b ne_b bd_25 ld_r lv_r st_rk eq_rk ne_rk bd_r ld_p lv_p st_px bd_p Nm.ld_a Nm.ld_n Nm.st_a Nm.st_n Nm.eq_a Nm.eq_n Nm.ne_a Nm.ne_n Nm.lv_a Nm.lv_n ld_a ld_n st_a st_n eq_a eq_n ne_a ne_n lv_a lv_n
attribute [local go_sem] run_ldk run_lvk run_stk run_eqk run_nek run_bdk_z run_ldb run_lvb run_stb run_eqb run_neb run_ldr run_lvr run_strk run_eqrk run_nerk run_bdr_z run_ldp run_lvp run_stpx Nm.run_ld_a Nm.run_ld_n Nm.run_st_n Nm.run_eq_a Nm.run_eq_n Nm.run_ne_a Nm.run_ne_n Nm.run_lv_a Nm.run_lv_n Nm.rd_new Nm.rd_old Nm.rd_drew Nm.rd_drewN run_ld_a run_ld_n run_sw_a run_sw_n run_eq_a run_eq_n run_ne_a run_ne_n run_lv_a run_lv_n st_z ne_z eq_z rd_new rd_old rd_drew rd_drewN Shp.rd_new Shp.rd_old Shp.rd_drew Shp.rd_drewN Shp.rd_set Shp.tn_new Shp.tn_old Shp.tn_drew Shp.tn_drewN tn_new tn_old tn_drew tn_drewN rd_set setRow_alloc run_stn3 run_stt15 Shp.rd_extk cell_ext

theorem ky_info : (Tryz.prog.info? 33).map (fun i => (i.zero, i.size, i.bytes)) = some (some (.agg (kS.v D.zK)), 25, 25) := by kernel_rfl
section
variable (w : World)
theorem run_kapp {base : Nat} {A : Option Addr} {ad : Addr} {n c d : Nat} {l : List D.Ky} {x : D.Ky} (ty : TypeId) (ho : kS.Own base 33 w A n c l) (hx : kS.rd w ad = some x) (h63 : n + 1 ≤ 1000000) :
    ∃ A' c' w', (Builtin.append_ #[63, 63] ty #[.slice A n c, .slice (some ad) 1 d]).run Tryz.prog w = .ok (.slice A' (n + 1) c') w' ∧
      kS.Own base 33 w' A' (n + 1) c' (l ++ [x]) ∧ w.grownBy w' (Value.slice A n c).ownBlock ∧ ((Value.slice A' (n + 1) c').ownBlock = (Value.slice A n c).ownBlock ∨ (Value.slice A' (n + 1) c').ownBlock = some w.heap.size) := by
  obtain ⟨i, hi, hz0, hz1, hz2⟩ := info_parts ky_info
  have hl : (kS.cs x).length = 1 * 25 := by rw [kS.len]; rfl
  obtain ⟨v', w', hrun, h2, h3, _, h5⟩ := run_append_own_at (P := Tryz.prog) w base 63 ty 33 i _ 25 25 Tryz.underlying63 hi hz0 hz1 hz2 (by rw [show (Value.agg (kS.v D.zK)).cells = kS.v D.zK from rfl, kS.v_size]; rfl) (by omega) _ n (kS.rcs l) ho.row ad 1 d (kS.cs x) hl (Shp.at_of hx) (kS.one x) (by simp only [maxLen]; omega) (by omega) ho.base
  have hs : ∃ A' c', v' = .slice A' (n + 1) c' := by
    rcases h2.2 with ⟨rfl, h0⟩ | ⟨g, cap, _, rfl, _⟩
    · exact ⟨none, 0, by rw [h0]⟩
    · exact ⟨_, _, rfl⟩
  obtain ⟨A', c', rfl⟩ := hs
  refine ⟨A', c', w', hrun, ⟨?_, Nat.le_trans ho.base h3.size⟩, h3, h5⟩
  have : kS.rcs (l ++ [x]) = kS.rcs l ++ kS.cs x := by rw [Shp.rcs_app]; simp [Shp.rcs]
  rw [this]
  exact h2
theorem kapp {ops : Array Oper} {rest : List Oper} {o : Oper} {a : Act} {Q : Exit → Act → World → Prop} {base : Nat} (hgd : o.guard = none) (s x : Operand)
    (hop : o.op = .call { callee := .builtin .append, args := #[s, x], argTypes := #[63, 63] })
    {A : Option Addr} {ad : Addr} {n c d : Nat} {l : List D.Ky} {k : D.Ky} (hs : a.eval s = .slice A n c) (ho : kS.Own base 33 w A n c l) (hx : a.eval x = .slice (some ad) 1 d) (hr : kS.rd w ad = some k) (h63 : n + 1 ≤ 1000000)
    (h : ∀ A' c' w', kS.Own base 33 w' A' (n + 1) c' (l ++ [k]) → w.grownBy w' (Value.slice A n c).ownBlock → ((Value.slice A' (n + 1) c').ownBlock = (Value.slice A n c).ownBlock ∨ (Value.slice A' (n + 1) c').ownBlock = some w.heap.size) →
      wpList Tryz.prog ops Q rest (a.put o.dst (.slice A' (n + 1) c')) w') : wpList Tryz.prog ops Q (o :: rest) a w := by
  obtain ⟨A', c', w', hrun, h2, h3, h4⟩ := run_kapp w o.type ho hr h63 (d := d)
  refine wpList_plain hgd fun K hK => ?_
  unfold Oper.wp execOp
  simp only [hop, resolve, invoke, builtin, Sem.run_bind, Sem.run_pure, Result.andThen_ok, List.map_toArray, List.map_cons, List.map_nil, hs, hx, hrun]
  exact hK _ _ (h A' c' w' h2 h3 h4)
end
/-- A literal slice of one key. -/
noncomputable def bslk (n : Nat) (ps : Array (Nat × Value)) : Sem Value := Instr.buildSlice 63 n ps
theorem bsl_k (n : Nat) (ps : Array (Nat × Value)) : Instr.buildSlice 63 n ps = bslk n ps := rfl
theorem fill_k (z : Array Value) (hz : z.size = 25) : ∀ l : List Value, l.length = 25 → Instr.fill (fun i => some (i * 25, 25)) ((Array.range (1 * 25)).map (z[· % z.size]!)) [(0, .agg l.toArray)] = some l.toArray
  | [x0, x1, x2, x3, x4, x5, x6, x7, x8, x9, x10, x11, x12, x13, x14, x15, x16, x17, x18, x19, x20, x21, x22, x23, x24], _ => by
    simp [go_sem]
theorem run_bslk (w : World) (x : D.Ky) : (bslk 1 #[(0, .agg (kS.v x))]).run Tryz.prog w = .ok (.slice (some ⟨w.heap.size, 0, none⟩) 1 1) (w.alloc (.cells (kS.v x) 33)) := by
  have hf := fill_k (kS.v D.zK) (kS.v_size _) (kS.cs x) (kS.len x)
  have hz : (zeroValue 33).run Tryz.prog w = .ok (.agg (kS.v D.zK)) w := by kernel_rfl
  simp only [bslk, Instr.buildSlice, Sem.run_bind, Tryz.runUnderlying63, Result.andThen_ok, Tryz.sizeOf33]
  simp only [Nat.reduceMul, Nat.reducePow, Nat.reduceLT, gt_iff_lt, Nat.reduceEqDiff, if_false, Sem.run_pure, Sem.run_bind, hz, Result.andThen_ok, Value.cells] at hf ⊢
  rw [show (kS.v x) = (kS.cs x).toArray from rfl, hf]
  rfl
end Go.Proofs.YtjblepjkejihcaaGreatDoor
