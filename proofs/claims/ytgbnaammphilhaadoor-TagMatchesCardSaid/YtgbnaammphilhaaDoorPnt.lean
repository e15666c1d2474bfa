/-
  The program's Parent.
-/
import Derived.Test.YtgbnaammphilhaaDoorRgt
set_option linter.unusedVariables false
set_option linter.unusedSimpArgs false
namespace Go.Proofs.YtgbnaammphilhaaDoor
open Go.RowKit
attribute [local go_sem ↓] Go.wp_at_zero Go.wp_at_succ ld_a ld_n st_a st_n eq_a eq_n ne_a ne_n bsl_n lv_a lv_n lp_3 lp_4
attribute [local go_sem] run_ld_a run_ld_n run_sw_a run_sw_n run_eq_a run_eq_n run_ne_a run_ne_n run_bsl1_n run_lv_a run_lv_n st_z ne_z eq_z rd_new rd_old rd_drew rd_drewN rd_set tn_new tn_old tn_drew tn_drewN setRow_alloc run_lp_3 run_lp_4

theorem key_part (t : TypeId) (n : Nat) (ht : (t = 26 ∧ n = 3) ∨ (t = 27 ∧ n = 4)) (l : List Nat) (hn : l.length = n) (hl : ∀ b ∈ l, b < 256) : ∃ k, keyOf Tryd.prog t (.agg (pv l)) = some k := by
  have c26 : Tryd.prog.cellsOf 26 = 3 := by kernel_rfl
  have c27 : Tryd.prog.cellsOf 27 = 4 := by kernel_rfl
  rcases ht with ⟨rfl, rfl⟩ | ⟨rfl, rfl⟩
  · have hk := lits_arr l hl 3 hn 26 (Tryd.prog.types.size - 1) Tryd.underlying26 c26
    have hs : ((bys l).toArray.size == Tryd.prog.cellsOf 26) = true := by rw [c26]; simp [bys_len, hn]
    refine ⟨.string (keyBytes (((List.range 3).map fun i => [Lit.int .u8 ((l.getD i 0 : Nat) : Int)]).flatten)), ?_⟩
    unfold keyOf
    rw [Tryd.underlying26]
    simp only [show Tryd.prog.keyType 26 = true by kernel_rfl, Value.formed, Tryd.underlying26, Value.cells, pv, Bool.true_and, hs, if_true]
    rw [show Tryd.prog.types.size + 1 = Tryd.prog.types.size - 1 + 2 by kernel_rfl, hk]
    rfl
  · have hk := lits_arr l hl 4 hn 27 (Tryd.prog.types.size - 1) Tryd.underlying27 c27
    have hs : ((bys l).toArray.size == Tryd.prog.cellsOf 27) = true := by rw [c27]; simp [bys_len, hn]
    refine ⟨.string (keyBytes (((List.range 4).map fun i => [Lit.int .u8 ((l.getD i 0 : Nat) : Int)]).flatten)), ?_⟩
    unfold keyOf
    rw [Tryd.underlying27]
    simp only [show Tryd.prog.keyType 27 = true by kernel_rfl, Value.formed, Tryd.underlying27, Value.cells, pv, Bool.true_and, hs, if_true]
    rw [show Tryd.prog.types.size + 1 = Tryd.prog.types.size - 1 + 2 by kernel_rfl, hk]
    rfl
theorem law_p (t : TypeId) (n : Nat) (ht : (t = 26 ∧ n = 3) ∨ (t = 27 ∧ n = 4)) : Maps.Keyed Tryd.prog t := by
  rcases ht with ⟨rfl, rfl⟩ | ⟨rfl, rfl⟩
  · exact Maps.Keyed.of_law (deep_law_laid laid_out (m := 3) (by omega) (of_decide_eq_true (by kernel_rfl)) (by kernel_rfl) (by rw [Tryd.underlying26]))
  · exact Maps.Keyed.of_law (deep_law_laid laid_out (m := 3) (by omega) (of_decide_eq_true (by kernel_rfl)) (by kernel_rfl) (by rw [Tryd.underlying27]))
set_option maxRecDepth 100000 in
theorem run_nep (w : World) (t : TypeId) (n : Nat) (ht : (t = 26 ∧ n = 3) ∨ (t = 27 ∧ n = 4)) (l k : List Nat) (hn : l.length = n) (hl : ∀ b ∈ l, b < 256) (hm : k.length = n) (hk : ∀ b ∈ k, b < 256) : (binOp .neq t (.agg (pv l)) (.agg (pv k))).run Tryd.prog w = .ok (.bool (!decide (l = k))) w := by
  obtain ⟨lx, hx⟩ := key_part t n ht l hn hl
  obtain ⟨ly, hy⟩ := key_part t n ht k hm hk
  have hkt : Tryd.prog.keyTypeAt 3 t = true := by rcases ht with ⟨rfl, rfl⟩ | ⟨rfl, rfl⟩ <;> kernel_rfl
  have hw : (match Tryd.prog.underlying t with | some (.array _ _) | some (.struct _) => true | _ => false) = true := by
    rcases ht with ⟨rfl, rfl⟩ | ⟨rfl, rfl⟩
    · rw [Tryd.underlying26]
    · rw [Tryd.underlying27]
  have K := law_p t n ht
  obtain ⟨r, hr, hiff⟩ := run_equal_deep (P := Tryd.prog) w (m := 3) (by omega) hkt hw hx hy
  have : (r = true) ↔ l = k := by
    rw [hiff]
    constructor
    · intro e
      subst e
      have := K.inj hx hy
      injection this with this
      exact bys_inj (by simpa [pv] using this)
    · intro e
      subst e
      rw [hx] at hy
      injection hy
  simp only [binOp]
  rw [Sem.run_bind, hr]
  have hd : decide (l = k) = r := by
    cases r
    · simpa using this
    · simpa using this
  rw [hd]
  rfl
theorem nep_r (x : D.Tg) (b : Bool) (h : decide (D.pr x = [0, 0, 0]) = !b) (W : World) : (binOp .neq 26 (.agg (pv (D.pr x))) (.agg #[.int .u8 0, .int .u8 0, .int .u8 0])).run Tryd.prog W = .ok (.bool b) W := by
  have hx := x.len
  have := run_nep W 26 3 (.inl ⟨rfl, rfl⟩) (D.pr x) [0, 0, 0] (by simp [D.pr]; omega) (fun b hb => x.lt b (List.mem_of_mem_drop hb)) rfl (by decide)
  rw [h, Bool.not_not] at this
  exact this
theorem nep_s (x : D.Tg) (b : Bool) (h : decide (D.ps x = [0, 0, 0, 0]) = !b) (W : World) : (binOp .neq 27 (.agg (pv (D.ps x))) (.agg #[.int .u8 0, .int .u8 0, .int .u8 0, .int .u8 0])).run Tryd.prog W = .ok (.bool b) W := by
  have hx := x.len
  have := run_nep W 27 4 (.inr ⟨rfl, rfl⟩) (D.ps x) [0, 0, 0, 0] (by simp [D.ps]; omega) (fun b hb => x.lt b (List.mem_of_mem_drop (List.mem_of_mem_take hb))) rfl (by decide)
  rw [h, Bool.not_not] at this
  exact this
noncomputable def bld (ps : Array (Nat × Value)) : Sem Value := Instr.build 29 ps
theorem bl_d (ps : Array (Nat × Value)) : Instr.build 29 ps = bld ps := rfl
theorem run_bld0 (W : World) : (bld #[]).run Tryd.prog W = .ok (.agg #[.int .u8 0, .int .u8 0, .int .u8 0, .int .u8 0, .int .u8 0, .int .u8 0, .int .u8 0, .int .u8 0, .int .u8 0, .int .u8 0]) W := by simp [bld, Instr.build, go_sem]
theorem build_two (x y : D.Tg) (hy : y.l = D.pl x ++ (D.ps x ++ [0, 0, 0])) (W : World) : (bld #[(0, .agg (pv (D.pl x))), (1, .agg (pv (D.ps x)))]).run Tryd.prog W = .ok (.agg (nc y)) W := by
  have hx := x.len
  match hl : x.l, hx with
  | [a, b, c, d, e, f, g, h, i, j], _ =>
    have e1 : D.pl x = [a, b, c] := by rw [D.pl, hl]; rfl
    have e2 : D.ps x = [d, e, f, g] := by rw [D.ps, hl]; rfl
    rw [e1, e2] at hy ⊢
    rw [nc, hy]
    simp [bld, Instr.build, go_sem, pv, bys]
theorem build_one (x y : D.Tg) (hy : y.l = D.pl x ++ [0, 0, 0, 0, 0, 0, 0]) (W : World) : (bld #[(0, .agg (pv (D.pl x)))]).run Tryd.prog W = .ok (.agg (nc y)) W := by
  have hx := x.len
  match hl : x.l, hx with
  | [a, b, c, d, e, f, g, h, i, j], _ =>
    have e1 : D.pl x = [a, b, c] := by rw [D.pl, hl]; rfl
    rw [e1] at hy ⊢
    rw [nc, hy]
    simp [bld, Instr.build, go_sem, pv, bys]
theorem padn_zero {l : List Nat} {n : Nat} (h : l.length ≤ n) (hc : ∀ c ∈ l, D.Ch c) : D.padn l n = List.replicate n 0 ↔ l = [] := by
  constructor
  · intro e
    cases l with
    | nil => rfl
    | cons c t =>
      have := hc c (by simp)
      rw [D.padn_eq h] at e
      cases n with
      | zero => simp at h
      | succ n =>
        rw [List.replicate_succ, List.cons_append] at e
        injection e with e _
        unfold D.Ch at this
        omega
  · rintro rfl
    rw [D.padn_eq (by simp)]
    simp
attribute [local go_sem ↓] bl_d
attribute [local go_sem] run_bld0
set_option maxRecDepth 100000 in
set_option maxHeartbeats 2000000 in
theorem parent_any (x : D.Tg) (w : World) : Calls Tryd.prog 18 #[.agg (nc x)] w fun e w' => e = .returned (.tuple #[.agg (nc (D.tpar x).1), .bool (D.tpar x).2]) ∧ Below w.heap.size w w' := by
  have cR := Lib.hid (fun w => right_any x w)
  obtain ⟨w0, hw0⟩ : ∃ w0, (w.alloc (.cells (nc x) 29)).alloc (.cells #[.int .u8 0, .int .u8 0, .int .u8 0, .int .u8 0, .int .u8 0, .int .u8 0, .int .u8 0, .int .u8 0, .int .u8 0, .int .u8 0] 29) = w0 := ⟨_, rfl⟩
  have f0 : rd w0 ⟨w.heap.size, 0, none⟩ = some x := by rw [← hw0, rd_old _ _ _ (by simp)]; exact rd_new w _ _ x rfl
  have t0 : tn w0 (w.heap.size + 1) = true := by rw [← hw0, tn_new _ _ _ _ (by simp)]; rfl
  have b0 : Below w.heap.size w w0 := by rw [← hw0]; exact (((Below.refl _ _).alloc (Nat.le_refl _) _).alloc (by simp) _)
  have hz0 := b0.size
  cases hz : sm x D.zero with
  | true =>
    have e : x = D.zero := of_decide_eq_true hz
    have hp : D.tpar x = (D.zero, false) := by rw [e]; rfl
    rw [hp]
    have hset := rd_set w0 (w.heap.size + 1) D.zero t0
    have b9 := below_setRow b0 (Nat.le_succ _) (nc D.zero)
    clear hp e
    go_enter Tryd.func18, Tryd.ntmps18
    go_wp2
    refine bodyPost_ret (v := .tuple #[.agg (nc D.zero), .bool false]) (by rw [results_cell_tmp rfl]; simp [asAddr, Result.andThen, lv_of_n hset]) rfl ⟨rfl, b9⟩
  | false =>
    have hne : x ≠ D.zero := of_decide_eq_false hz
    cases hpt : D.pt x with
    | none =>
      have hp : D.tpar x = (D.zero, false) := by unfold D.tpar; rw [hpt]
      have hr : D.right x = false := by unfold D.right; rw [hpt]; rfl
      rw [hp]
      rw [hr] at cR
      clear hp hr hpt hne
      go_enter Tryd.func18, Tryd.ntmps18
      go_wp2_with (go_at_call 13; (with_reducible refine (cR.out _).mono ?_); rintro e w1 ⟨rfl, b1⟩; have t1 := tn_on t0 b1; have hset := rd_set w1 (w.heap.size + 1) D.zero t1; have b9 := below_setRow (below_on b0 hz0 b1) (Nat.le_succ _) (nc D.zero))
      refine bodyPost_ret (v := .tuple #[.agg (nc D.zero), .bool false]) (by rw [results_cell_tmp rfl]; simp [asAddr, Result.andThen, lv_of_n hset]) rfl ⟨rfl, b9⟩
    | some p =>
      obtain ⟨hcan, htb⟩ := D.pt_some hpt
      have hr : D.right x = true := by unfold D.right; rw [hpt]; rfl
      rw [hr] at cR
      have hprt : p ≠ D.rt := fun e => hne (by rw [← htb, e]; rfl)
      obtain ⟨g1, g2, g3⟩ := D.parts_tb hcan
      rw [htb] at g1 g2 g3
      obtain ⟨k1, k2, k3⟩ := D.can_ch hcan
      obtain ⟨l1, l2, l3⟩ := D.can_len hcan
      have zr := padn_zero l3 k3
      have zs := padn_zero l2 k2
      rw [← g3] at zr
      rw [← g2] at zs
      have htp : D.tpar x = match D.par p with
        | none => (D.zero, false)
        | some q => (D.tb q, true) := by unfold D.tpar; rw [hpt]; rfl
      by_cases hr0 : p.r = []
      · have n1 := fun W => nep_r x false (by simpa using zr.2 hr0) W
        by_cases hs0 : p.s = []
        · have n2 := fun W => nep_s x false (by simpa using zs.2 hs0) W
          have hp : D.tpar x = (D.zero, true) := by rw [htp]; unfold D.par; simp [hprt, hr0, hs0]; rfl
          rw [hp]
          clear hp htp hr hpt hne hcan htb hprt g1 g2 g3 k1 k2 k3 l1 l2 l3 zr zs hr0 hs0
          go_enter Tryd.func18, Tryd.ntmps18
          go_wp2_with (go_at_call 13; (with_reducible refine (cR.out _).mono ?_); rintro e w1 ⟨rfl, b1⟩; have t1 := tn_on t0 b1; obtain ⟨r1, r2, r3⟩ := rd_parts (rd_on f0 b1); have hset := rd_set w1 (w.heap.size + 1) D.zero t1; have b9 := below_setRow (below_on b0 hz0 b1) (Nat.le_succ _) (nc D.zero))
          refine bodyPost_ret (v := .tuple #[.agg (nc D.zero), .bool true]) (by rw [results_cell_tmp rfl]; simp [asAddr, Result.andThen, lv_of_n hset]) rfl ⟨rfl, b9⟩
        · have n2 := fun W => nep_s x true (by simp only [Bool.not_true, decide_eq_false_iff_not]; exact fun e => hs0 (zs.1 e)) W
          have hp : D.tpar x = (D.tb ⟨p.l, [], []⟩, true) := by rw [htp]; unfold D.par; simp [hprt, hr0, hs0]
          rw [hp]
          obtain ⟨y, hy⟩ : ∃ y, D.tb ⟨p.l, [], []⟩ = y := ⟨_, rfl⟩
          have hyl : y.l = D.pl x ++ [0, 0, 0, 0, 0, 0, 0] := by
            rw [← hy, D.tb_l (p := ⟨p.l, [], []⟩) (D.ch_lt k1) (fun c h => by cases h) (fun c h => by cases h), g1]; rfl
          rw [hy]
          have hb := fun W => build_one x y hyl W
          clear hp htp hr hpt hne hcan htb hprt g1 g2 g3 k1 k2 k3 l1 l2 l3 zr zs hr0 hs0 hy hyl
          go_enter Tryd.func18, Tryd.ntmps18
          go_wp2_with (go_at_call 13; (with_reducible refine (cR.out _).mono ?_); rintro e w1 ⟨rfl, b1⟩; have t1 := tn_on t0 b1; obtain ⟨r1, r2, r3⟩ := rd_parts (rd_on f0 b1); have hset := rd_set w1 (w.heap.size + 1) y t1; have b9 := below_setRow (below_on b0 hz0 b1) (Nat.le_succ _) (nc y))
          refine bodyPost_ret (v := .tuple #[.agg (nc y), .bool true]) (by rw [results_cell_tmp rfl]; simp [asAddr, Result.andThen, lv_of_n hset]) rfl ⟨rfl, b9⟩
      · have n1 := fun W => nep_r x true (by simp only [Bool.not_true, decide_eq_false_iff_not]; exact fun e => hr0 (zr.1 e)) W
        have hp : D.tpar x = (D.tb ⟨p.l, p.s, []⟩, true) := by rw [htp]; unfold D.par; simp [hprt, hr0]
        rw [hp]
        obtain ⟨y, hy⟩ : ∃ y, D.tb ⟨p.l, p.s, []⟩ = y := ⟨_, rfl⟩
        have hyl : y.l = D.pl x ++ (D.ps x ++ [0, 0, 0]) := by
          rw [← hy, D.tb_l (p := ⟨p.l, p.s, []⟩) (D.ch_lt k1) (D.ch_lt k2) (fun c h => by cases h), g1, g2]; rfl
        rw [hy]
        have hb := fun W => build_two x y hyl W
        clear hp htp hr hpt hne hcan htb hprt g1 g2 g3 k1 k2 k3 l1 l2 l3 zr zs hr0 hy hyl
        go_enter Tryd.func18, Tryd.ntmps18
        go_wp2_with (go_at_call 13; (with_reducible refine (cR.out _).mono ?_); rintro e w1 ⟨rfl, b1⟩; have t1 := tn_on t0 b1; obtain ⟨r1, r2, r3⟩ := rd_parts (rd_on f0 b1); have hset := rd_set w1 (w.heap.size + 1) y t1; have b9 := below_setRow (below_on b0 hz0 b1) (Nat.le_succ _) (nc y))
        refine bodyPost_ret (v := .tuple #[.agg (nc y), .bool true]) (by rw [results_cell_tmp rfl]; simp [asAddr, Result.andThen, lv_of_n hset]) rfl ⟨rfl, b9⟩
end Go.Proofs.YtgbnaammphilhaaDoor
