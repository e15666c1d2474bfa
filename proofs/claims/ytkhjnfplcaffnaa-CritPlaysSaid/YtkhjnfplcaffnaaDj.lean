/-
  Map of a tree: each key and its thing.
  The law's holds: a tree holds just the document's list.
-/
import Derived.Test.YtkhjnfplcaffnaaDc
set_option linter.unusedVariables false
set_option linter.unusedSimpArgs false
set_option maxRecDepth 100000
namespace Go.Proofs.Ytkhjnfplcaffnaa
open Go.RowKit
attribute [local go_sem ↓] Go.wp_at_zero Go.wp_at_succ ld_k lv_k st_k eq_k ne_k bd_k ld_b lv_b st_b eq_b ne_b bd_25 ld_r lv_r st_rk eq_rk ne_rk bd_r ld_p lv_p st_px bd_p Nm.ld_a Nm.ld_n Nm.st_a Nm.st_n Nm.eq_a Nm.eq_n Nm.ne_a Nm.ne_n Nm.lv_a Nm.lv_n ld_a ld_n st_a st_n eq_a eq_n ne_a ne_n lv_a lv_n ld_l lv_l st_l bd_l bd_n bs_l bs_k ld_e lv_e bd_e bs_e ld_ac lv_ac st_ac
attribute [local go_sem] run_ldk run_lvk run_stk run_eqk run_nek run_bdk_z run_ldb run_lvb run_stb run_eqb run_neb run_ldr run_lvr run_strk run_eqrk run_nerk run_bdr_z run_ldp run_lvp run_stpx Nm.run_ld_a Nm.run_ld_n Nm.run_st_n Nm.run_eq_a Nm.run_eq_n Nm.run_ne_a Nm.run_ne_n Nm.run_lv_a Nm.run_lv_n Nm.rd_new Nm.rd_old Nm.rd_drew Nm.rd_drewN run_ld_a run_ld_n run_sw_a run_sw_n run_eq_a run_eq_n run_ne_a run_ne_n run_lv_a run_lv_n st_z ne_z eq_z rd_new rd_old rd_drew rd_drewN Shp.rd_new Shp.rd_old Shp.rd_drew Shp.rd_drewN Shp.rd_set Shp.tn_new Shp.tn_old Shp.tn_drew Shp.tn_drewN tn_new tn_old tn_drew tn_drewN rd_set setRow_alloc run_stn3 run_stt15 run_lvl run_ldl run_stl run_bdl run_bdn run_bdn0 run_bsl run_bsk run_lde run_lve run_bde run_bse run_bse0 run_lda run_lva run_sta Shp.rd_extk cell_ext

noncomputable def bdi (ps : Array (Nat × Value)) : Sem Value := Instr.build 89 ps
noncomputable def sti (p v : Value) : Sem Unit := Instr.storeAt 89 p v
noncomputable def bsi (n : Nat) (ps : Array (Nat × Value)) : Sem Value := Instr.buildSlice 86 n ps
theorem bd_i (ps : Array (Nat × Value)) : Instr.build 89 ps = bdi ps := rfl
theorem st_i (p v : Value) : Instr.storeAt 89 p v = sti p v := rfl
theorem bs_i (n : Nat) (ps : Array (Nat × Value)) : Instr.buildSlice 86 n ps = bsi n ps := rfl
theorem bdi_list (w : World) (d : Int) : ∀ l : List Value, l.length = 25 → (bdi #[(0, .agg l.toArray), (1, .int .i64 d)]).run Try.prog w = .ok (.agg (l ++ [Value.int .i64 d]).toArray) w
  | [a0, a1, a2, a3, a4, a5, a6, a7, a8, a9, a10, a11, a12, a13, a14, a15, a16, a17, a18, a19, a20, a21, a22, a23, a24], _ => by
    simp [bdi, Instr.build, go_sem]
theorem run_bdi (w : World) (x : D.Ky) (d : Int) : (bdi #[(0, .agg (kS.v x)), (1, .int .i64 d)]).run Try.prog w = .ok (.agg (lS.v (x, d))) w := bdi_list w d (bys x.l) (by rw [bys_len, x.len])
theorem run_sti (w : World) (g : Nat) (x : Lf) : (sti (.pointer (some ⟨g, 0, none⟩)) (.agg (lS.v x))).run Try.prog w = bif Shp.tn 26 w g then .ok () (w.setRow g (lS.v x)) else bs 89 g (lS.v x) w := by
  cases h : Shp.tn 26 w g with
  | false => rfl
  | true => exact Shp.storeVar_of (S := lS) h x fun t' cs hb hs => run_storeVar_row (P := Try.prog) w g t' _ cs (lS.v x) hb.out (by rw [lS.v_size]; kernel_rfl) hs (lS.v_one x)
theorem bsi_list (w : World) : ∀ l : List Value, l.length = 26 → (bsi 1 #[(0, .agg l.toArray)]).run Try.prog w = .ok (.slice (some ⟨w.heap.size, 0, none⟩) 1 1) (w.alloc (.cells l.toArray 89))
  | [a0, a1, a2, a3, a4, a5, a6, a7, a8, a9, a10, a11, a12, a13, a14, a15, a16, a17, a18, a19, a20, a21, a22, a23, a24, a25], _ => by
    simp [bsi, Instr.buildSlice, go_sem]
theorem run_bsi (w : World) (e : Lf) : (bsi 1 #[(0, .agg (lS.v e))]).run Try.prog w = .ok (.slice (some ⟨w.heap.size, 0, none⟩) 1 1) (w.alloc (.cells (lS.v e) 89)) := bsi_list w (lcells e) (lS.len e)
attribute [local go_sem ↓] bd_i st_i bs_i
attribute [local go_sem] run_bdi run_sti run_bsi
theorem lvi_of {w : World} {g : Nat} {x : Lf} (h : lS.rd w ⟨g, 0, none⟩ = some x) : (loadVar 89 ⟨g, 0, none⟩).run Try.prog w = .ok (.agg (lS.v x)) w := Shp.loadVar_of Try.isAgg89 Try.sizeOf89 (Shp.at_of h)
set_option maxHeartbeats 1000000 in
theorem clo_any (x : D.Ky) (v : Int) (w : World) : Calls Try.prog 33 #[.agg (kS.v x), .int .i64 v] w fun e w' => e = .returned (.agg (lS.v (x, v))) ∧ Below w.heap.size w w' := by
  obtain ⟨w0, hw0⟩ : ∃ w0, (w.alloc (.cells (kS.v x) 30)).alloc (.cells #[.int .u8 0, .int .u8 0, .int .u8 0, .int .u8 0, .int .u8 0, .int .u8 0, .int .u8 0, .int .u8 0, .int .u8 0, .int .u8 0, .int .u8 0, .int .u8 0, .int .u8 0, .int .u8 0, .int .u8 0, .int .u8 0, .int .u8 0, .int .u8 0, .int .u8 0, .int .u8 0, .int .u8 0, .int .u8 0, .int .u8 0, .int .u8 0, .int .u8 0, .int .i64 0] 89) = w0 := ⟨_, rfl⟩
  have f0 : kS.rd w0 ⟨w.heap.size, 0, none⟩ = some x := by rw [← hw0]; exact Shp.rd_on (Shp.rd_new (S := kS) w _ _ _ rfl) (below_alloc_ _ _)
  have k0 : Shp.tn 26 w0 (w.heap.size + 1) = true := by rw [← hw0]; exact Shp.tn_new _ _ _ _ _ (by simp) rfl
  have b0 : Below w.heap.size w w0 := by rw [← hw0]; exact (below_alloc_ _ _).alloc (by simp) _
  go_enter Try.func33, Try.ntmps33
  go_wp2_with fail
  try rw [hw0]
  clear hw0
  go_wp2_with fail
  have hset := Shp.rd_set (S := lS) w0 (w.heap.size + 1) (x, v) k0
  refine bodyPost_ret (v := .agg (lS.v (x, v))) (by rw [results_cell1 rfl]; simp [asAddr, Result.andThen, lvi_of hset]) rfl ⟨rfl, below_setRow b0 (Nat.le_succ _) _⟩
theorem coll_any (B : Nat) (o : Option Tk) (w : World) (hb : w.cell? ⟨B, 0, none⟩ = some (.pointer (pt o))) (hT : ∀ t, o = some t → Nd w t ∧ t.wf) (hz : (Cr.Tr.lso o).length ≤ 1000) : Calls Try.prog 49 #[.func (.func 53) #[] #[.pointer (some ⟨B, 0, none⟩)]] w fun e w' => ∃ (A : Option Addr) (c : Nat), e = .returned (.slice A (Cr.Tr.lso o).length c) ∧ Ow 81 26 w.heap.size w' A (Cr.Tr.lso o).length c (lS.rcs (Cr.Tr.lso o)) ∧ Below w.heap.size w w' := by
  have C := Lib.hid (apps_any B o w hb hT hz)
  clear hb hT hz
  go_enter Try.func49, Try.ntmps49
  go_wp2_with (go_at_call 62; (with_reducible refine C.out.mono ?_); rintro e w1 ⟨A1, c1, rfl, ho, hb⟩; have HO := Lib.hid ho; have HB := Lib.hid hb; clear ho hb)
  go_ret
  exact ⟨A1, c1, rfl, HO.out, HB.out⟩
/-- A row in blocks of its own type. -/
structure DT {α : Type} (S : Shp α) (T : TypeId) (w : World) (A : Option Addr) (n : Nat) (l : List α) : Prop where
  row : Shp.Row S w A n l
  ty : ∀ ad, A = some ad → 0 < n → ∃ cs, w.heap[ad.block]? = some (Obj.cells cs T (0, 0))
theorem DT.kept {α : Type} {S : Shp α} {T : TypeId} {X : Nat → Prop} {w w' : World} {A : Option Addr} {n : Nat} {l : List α} (h : DT S T w A n l) (hs : w.heap.size ≤ w'.heap.size) (hk : ∀ i, i < w.heap.size → ¬ X i → w'.heap[i]? = w.heap[i]?) (hS : ∀ i, X i → ∀ cs, w.heap[i]? ≠ some (Obj.cells cs T (0, 0))) : DT S T w' A n l := by
  rcases Nat.eq_zero_or_pos n with h0 | h0
  · subst h0
    have : l = [] := List.eq_nil_of_length_eq_zero h.row.len
    subst this
    exact ⟨Shp.Row.nil _ _, fun _ _ h => absurd h (by omega)⟩
  · have key : ∀ ad, A = some ad → w'.heap[ad.block]? = w.heap[ad.block]? := fun ad e => by
      obtain ⟨cs, hcs⟩ := h.ty ad e h0
      exact hk _ (Array.getElem?_eq_some_iff.1 hcs).1 fun hs => hS _ hs cs hcs
    exact ⟨h.row.kept hs key, fun ad e h1 => by
      obtain ⟨cs, hcs⟩ := h.ty ad e h1
      exact ⟨cs, (key ad e).trans hcs⟩⟩
theorem DT.on {α : Type} {S : Shp α} {T : TypeId} {w w' : World} {A : Option Addr} {n : Nat} {l : List α} (h : DT S T w A n l) (hb : Below w.heap.size w w') : DT S T w' A n l := h.kept (X := fun _ => False) hb.size (fun i hi _ => hb.block i hi) fun _ hf => hf.elim
theorem ow_blk_ {T : TypeId} {sz base n c q : Nat} {w : World} {A : Option Addr} {xs : List Value} (h : Ow T sz base w A n c xs) (hq : (Value.slice A n c).ownBlock = some q) : ∃ cs, w.heap[q]? = some (Obj.cells cs T (0, 0)) := by
  rcases h.row.2 with ⟨e, _⟩ | ⟨g2, cap, cur, e, _, hh, _⟩
  · rw [e] at hq; cases hq
  · rw [e] at hq; injection hq with hq; subst hq; exact ⟨_, hh⟩
theorem dt_of {base c : Nat} {w : World} {A : Option Addr} {n : Nat} {l : List Lf} {T : TypeId} (h : Ow T 26 base w A n c (lS.rcs l)) : DT lS T w A n l := ⟨Shp.Own.to_row (S := lS) (base := base) (e := T) (c := c) ⟨h.row, h.base⟩, fun ad e _ => by
  subst e
  rcases h.row.2 with ⟨e, _⟩ | ⟨g2, cap, cur, e, _, hh, _⟩
  · cases e
  · injection e with e1 e2 e3
    injection e1 with e1
    subst e1
    exact ⟨_, hh⟩⟩
theorem item_info : (Try.prog.info? 89).map (fun i => (i.zero, i.size, i.bytes)) = some (some (.agg (lS.v (D.zK, 0))), 26, 40) := by kernel_rfl
theorem item_under : Try.prog.underlying 86 = some (.slice 89) := by kernel_rfl
theorem catch_idle (p : Addr) (w : World) : CallsD Try.prog 48 #[.pointer (some p)] .returning w fun e u' w' => e = .returned (.tuple #[]) ∧ u' = .returning ∧ w' = w := by
  refine callsD_of_wpS Try.func48 rfl fun c₀ cs hu => ?_
  apply wpS_seq
  apply wpS_region
  simp [wpOpsS, go_sem, recoverD, hu, Try.ntmps48, Exit.thenS]
  refine wpS_cond (t := false) (by simp [Act.eval, Array.replicate]) ?_
  simp only [Bool.false_eq_true, if_false]
  refine wpS_of_wp (wp_skip ?_)
  cases c₀
  simp_all [bodyPostS, results, Try.results48]
theorem rcs_take {l : List Lf} {i : Nat} {e : Lf} (h : l[i]? = some e) : lS.rcs (l.take (i + 1)) = lS.rcs (l.take i) ++ lS.cs e := by
  rw [List.take_add_one, h, Shp.rcs_app]; simp [Shp.rcs]
set_option maxHeartbeats 8000000 in
theorem map_any (g : Nat) (o : Option Tk) (w : World) (hT : TR w g o) : Calls Try.prog 32 #[.pointer (some ⟨g, 0, none⟩), .func (.func 33) #[] #[]] w fun e w' => ∃ (A : Option Addr) (c : Nat), e = .returned (.slice A (Cr.Tr.lso o).length c) ∧ DT lS 89 w' A (Cr.Tr.lso o).length (Cr.Tr.lso o) ∧ Below w.heap.size w w' := by
  have hmf : ∀ (fn : Fn) (first cap : Array Value) (w : World), (Instr.makeFunc fn first cap).run Try.prog w = .ok (.func fn first cap) w := fun _ _ _ _ => rfl
  have b0 := below_alloc_ w (.cells #[.slice none 0 0] 86)
  have B0 := Blk.new w 86 #[.slice none 0 0]
  obtain ⟨gb, hgb⟩ : ∃ gb, w.heap.size = gb := ⟨_, rfl⟩
  obtain ⟨w0, hw0⟩ : ∃ w0, w.alloc (.cells #[.slice none 0 0] 86) = w0 := ⟨_, rfl⟩
  rw [hw0] at b0 B0
  rw [hgb] at b0 B0
  have hT0 : TR w0 g o := hT.on (by rw [hgb]; exact b0)
  have hz := hT0.sz
  have CT := Lib.hid (top_any g w0)
  have CW := Lib.hid (within_any (pt o) w0)
  have hc := hT0.root
  have CL : Hid (Calls Try.prog 49 #[.func (.func 53) #[] #[.pointer (some ⟨w0.heap.size, 0, none⟩)]] (w0.alloc (.cells #[.pointer (pt o)] 73)) fun e w' => ∃ (A : Option Addr) (c : Nat), e = .returned (.slice A (Cr.Tr.lso o).length c) ∧ Ow 81 26 (w0.heap.size + 1) w' A (Cr.Tr.lso o).length c (lS.rcs (Cr.Tr.lso o)) ∧ Below (w0.heap.size + 1) (w0.alloc (.cells #[.pointer (pt o)] 73)) w') := Lib.hid (by
    have b1 := below_alloc_ w0 (.cells #[.pointer (pt o)] 73)
    have h := coll_any w0.heap.size o (w0.alloc (.cells #[.pointer (pt o)] 73)) (Blk.new w0 _ _).cell (fun t e => ⟨(hT0.on b1).nd t e, (hT0.on b1).wf t e⟩) hz
    have e : (w0.alloc (.cells #[.pointer (pt o)] 73)).heap.size = w0.heap.size + 1 := by simp
    rw [e] at h
    exact h)
  obtain ⟨l, hl⟩ : ∃ l, Cr.Tr.lso o = l := ⟨_, rfl⟩
  rw [hl] at CL hz ⊢
  have HB0 := Lib.hid b0
  have HBB := Lib.hid B0
  have HGB := Lib.hid hgb
  clear hT hT0 hl b0 B0
  go_enter_defers Try.func32, Try.ntmps32
  go_wp2_with fail
  try rw [hw0]
  clear hw0
  go_wp2_with (first
    | (go_at_call 44; (with_reducible refine CT.out.mono ?_); rintro e w1 ⟨rfl, rfl⟩)
    | (go_at_call 39; (with_reducible refine CW.out.mono ?_); rintro e w2 ⟨rfl, rfl⟩)
    | (go_at_call 49; (with_reducible refine CL.out.mono ?_); rintro e w5 ⟨A5, c5, rfl, ho5, b5⟩; have HD5 := Lib.hid (dt_of ho5); have HB5 := Lib.hid (below_up (below_alloc_ w0 (.cells #[.pointer (pt o)] 73)) (Nat.le_of_lt (by simp)) (by simpa using b5)); clear ho5 b5)
    | fail)
  have l5 : gb < w5.heap.size := by have := HBB.out.lt; have := HB5.out.size; omega
  have HG5 := Lib.hid (HBB.out.on HB5.out)
  have HBW5 := Lib.hid (HB0.out.trans (HB5.out.mono (by have := HB0.out.size; have := HGB.out; omega)))
  clear CT CW CL HBB
  go_loopw [6, 15] (fun _ s15 wx => ∃ (i : Nat) (A : Option Addr) (c : Nat), i ≤ l.length ∧ s15 = .int .i64 i ∧ Hid (Ov w5.heap.size [gb] w5 wx) ∧ Hid (Blk wx gb 86 #[.slice A i c]) ∧ Hid (Ow 89 26 w5.heap.size wx A i c (lS.rcs (l.take i)))) (fun _ s15 _ => l.length - (intOf s15).toNat)
  case atStart => exact ⟨0, none, 0, Nat.zero_le _, rfl, Lib.hid (Ov.refl _ _ _), HG5, Lib.hid (Ow.nil _ 26 (Nat.le_refl _))⟩
  case round =>
    obtain ⟨i, A, c, hil, rfl, HO, HB, HW⟩ := hrel
    have i0 : (0 : Int) ≤ (i : Int) := by omega
    by_cases hlt : i < l.length
    · have i1 : (i : Int) < (l.length : Int) := by omega
      obtain ⟨e, he⟩ : ∃ e, l[i]? = some e := ⟨_, List.getElem?_eq_getElem hlt⟩
      have hdt : DT lS 81 wr A5 l.length l := HD5.out.kept (X := fun q => q ∈ [gb]) HO.out.size (fun q hq hx => HO.out.block q hq hx) (fun q hq cs hc => by
        have hq : q = gb := by simpa using hq
        subst hq
        have := hc.symm.trans HG5.out.out
        injection this with this
        injection this with _ h3
        exact absurd h3 (by decide))
      obtain ⟨ad, hAe, hal, hrd⟩ := hdt.row.rd he
      subst hAe
      have hrd : lS.rd wr (ad.add (i * 26)) = some e := hrd
      have HTK := Lib.hid (rcs_take he)
      obtain ⟨f1, f2⟩ := lf_of (Shp.rd_new (S := lS) wr wr.heap.size 81 e rfl)
      have hY := Blk.new wr 81 (lS.v e)
      have bA := below_alloc_ wr (.cells (lS.v e) 81)
      have lgr : gb < wr.heap.size := by have := HO.out.size; omega
      obtain ⟨ga, hga⟩ : ∃ ga, wr.heap.size = ga := ⟨_, rfl⟩
      obtain ⟨W1, hW1⟩ : ∃ W1, wr.alloc (.cells (lS.v e) 81) = W1 := ⟨_, rfl⟩
      rw [hga, hW1] at f1 f2 hY
      rw [hW1] at bA
      have lga : ga < W1.heap.size := hY.lt
      obtain ⟨X, hX⟩ : ∃ X, gb :: (Value.slice A i c).ownBlock.toList = X := ⟨_, rfl⟩
      have hgX : gb ∈ X := by rw [← hX]; simp
      have hrX : ∀ r, (Value.slice A i c).ownBlock = some r → r ∈ X := fun r e => by rw [← hX, e]; simp
      have nga : ga ∉ X := by
        rw [← hX]
        intro h
        rcases List.mem_cons.1 h with h | h
        · omega
        · have h2 : (Value.slice A i c).ownBlock = some ga := by simpa using h
          have := (HW.out.lt _ h2).2; omega
      clear hX
      have HW1 := Lib.hid hW1
      have HGA := Lib.hid hga
      have HY := Lib.hid hY
      have HBA := Lib.hid bA
      have HCC := Lib.hid (fun W => (clo_any e.1 e.2 W))
      clear hdt he hY bA hW1 hga hal
      rw [← HW1.out, ← HGA.out] at f1 f2
      go_wp2_with fail
      rw [HW1.out, HGA.out] at f1 f2
      try rw [HW1.out]
      try rw [HGA.out]
      clear f1 f2
      obtain ⟨w2, hw2⟩ : ∃ w2, W1.drew = w2 := ⟨_, rfl⟩
      have b2 : Below W1.heap.size W1 w2 := by rw [← hw2]; exact (Below.refl _ _).drew
      have s2 : Ov W1.heap.size X W1 w2 := (Ov.refl _ _ _).on (Nat.le_refl _) b2
      refine wp_region_noPanic ?_
      refine wp_region_held_drew (S := fun W => Ov W1.heap.size X W1 W) (by kernel_rfl) (by rw [hw2]; exact s2) (fun sd => ?_)
      rw [hw2]
      clear hw2 sd
      have bw2 := HBA.out.trans (b2.mono HBA.out.size)
      refine takeS 1 (some 20) ?vm1 (by kernel_rfl) (by kernel_rfl) (by kernel_rfl) (by kernel_rfl) (fun _ _ _ h => h) (by rfl) ?hym1 s2 ?restm1
      case hym1 => (intro o ho W hW; simp only [List.getElem?_toArray, List.getElem?_cons_succ, List.getElem?_cons_zero, Option.some.injEq] at ho; subst ho; go_simp; try rfl)
      try simp only [Act.put, List.setIfInBounds_toArray, List.set_cons_zero, List.set_cons_succ]
      refine takeS 2 (some 21) ?vm2 (by kernel_rfl) (by kernel_rfl) (by kernel_rfl) (by kernel_rfl) (fun _ _ _ h => h) (by rfl) ?hym2 s2 ?restm2
      case hym2 => (intro o ho W hW; simp only [List.getElem?_toArray, List.getElem?_cons_succ, List.getElem?_cons_zero, Option.some.injEq] at ho; subst ho; go_simp; try rfl)
      try simp only [Act.put, List.setIfInBounds_toArray, List.set_cons_zero, List.set_cons_succ]
      refine takeS 3 (some 22) ?vm3 (by kernel_rfl) (by kernel_rfl) (by kernel_rfl) (by kernel_rfl) (fun _ _ _ h => h) (by rfl) ?hym3 s2 ?restm3
      case hym3 => (intro o ho W hW; simp only [List.getElem?_toArray, List.getElem?_cons_succ, List.getElem?_cons_zero, Option.some.injEq] at ho; subst ho; have f_ := (lf_of (Shp.rd_blk (S := lS) (⟨(hW.block ga lga nga).trans HY.out.out⟩ : Blk W ga 81 (lS.v e)))); obtain ⟨f_1, f_2⟩ := f_; go_simp; try rfl)
      try simp only [Act.put, List.setIfInBounds_toArray, List.set_cons_zero, List.set_cons_succ]
      refine takeS 4 (some 23) ?vm4 (by kernel_rfl) (by kernel_rfl) (by kernel_rfl) (by kernel_rfl) (fun _ _ _ h => h) (by rfl) ?hym4 s2 ?restm4
      case hym4 => (intro o ho W hW; simp only [List.getElem?_toArray, List.getElem?_cons_succ, List.getElem?_cons_zero, Option.some.injEq] at ho; subst ho; go_simp; try rfl)
      try simp only [Act.put, List.setIfInBounds_toArray, List.set_cons_zero, List.set_cons_succ]
      refine takeS 5 (some 24) ?vm5 (by kernel_rfl) (by kernel_rfl) (by kernel_rfl) (by kernel_rfl) (fun _ _ _ h => h) (by rfl) ?hym5 s2 ?restm5
      case hym5 => (intro o ho W hW; simp only [List.getElem?_toArray, List.getElem?_cons_succ, List.getElem?_cons_zero, Option.some.injEq] at ho; subst ho; have f_ := (lf_of (Shp.rd_blk (S := lS) (⟨(hW.block ga lga nga).trans HY.out.out⟩ : Blk W ga 81 (lS.v e)))); obtain ⟨f_1, f_2⟩ := f_; go_simp; try rfl)
      try simp only [Act.put, List.setIfInBounds_toArray, List.set_cons_zero, List.set_cons_succ]
      have hc2 := (HB.out.on bw2).cell
      refine forkS 0 6 (by kernel_rfl) (by rfl) (by rfl) (fun o ho K hK => ?_) (fun o ho K hK => ?_)
      · simp only [List.getElem?_toArray, List.getElem?_cons_succ, List.getElem?_cons_zero, Option.some.injEq] at ho; subst ho
        go_simp
        refine hK.out _ _ s2 (fun _ => ?_)
        clear hK K
        try simp only [Act.put, List.setIfInBounds_toArray, List.set_cons_zero, List.set_cons_succ]
        refine nextS 6 (by kernel_rfl) (by rfl) (fun o ho K hK => ?_)
        simp only [List.getElem?_toArray, List.getElem?_cons_succ, List.getElem?_cons_zero, Option.some.injEq] at ho; subst ho
        go_simp
        (go_at_call 33; (with_reducible refine (HCC.out _).mono ?_); rintro e3 w3 ⟨rfl, b3⟩)
        have s3 : Ov W1.heap.size X W1 w3 := s2.on (Nat.le_refl _) b3
        have bw3 := below_up bw2 bw2.size b3
        have hc3 := (HB.out.on bw3).cell
        have s4 := s3.on (Nat.le_refl _) (below_alloc_ w3 (.cells (lS.v e) 89))
        have bw4 := bw3.alloc bw3.size (.cells (lS.v e) 89)
        have hc4 := (HB.out.on bw4).cell
        refine hK.out _ _ s3 (fun _ => ?_)
        clear hK K
        try simp only [Act.put, List.setIfInBounds_toArray, List.set_cons_zero, List.set_cons_succ]
        refine nextS 7 (by kernel_rfl) (by rfl) (fun o ho K hK => ?_)
        simp only [List.getElem?_toArray, List.getElem?_cons_succ, List.getElem?_cons_zero, Option.some.injEq] at ho; subst ho
        go_simp
        refine hK.out _ _ s4 (fun _ => ?_)
        clear hK K
        try simp only [Act.put, List.setIfInBounds_toArray, List.set_cons_zero, List.set_cons_succ]
        have hOA := HW.out.on bw4
        refine nextS 8 (by kernel_rfl) (by rfl) (fun o ho K hK => ?_)
        simp only [List.getElem?_toArray, List.getElem?_cons_succ, List.getElem?_cons_zero, Option.some.injEq] at ho; subst ho
        refine wp_gapp _ item_under item_info (by kernel_rfl) (by decide) (by decide) (.tmp 19) (.tmp 26) rfl rfl hOA rfl (rw_shp lS w3 e 89 _ rfl) (lS.one e) (by omega) ?_
        intro A1 c1 w8 ho1 hg1
        have s8 := s4.grown (Nat.le_refl _) hg1 (fun r e => .inr (hrX r e))
        refine hK.out _ _ s8 (fun _ => ?_)
        clear hK K
        try simp only [Act.put, List.setIfInBounds_toArray, List.set_cons_zero, List.set_cons_succ]
        have hb1 := (HB.out.on bw4).grown hg1 (fun e => by have := (hOA.lt _ e.symm).1; omega)
        have hc8 := hb1.cell
        have hf8 := hb1.free
        refine nextS 9 (by kernel_rfl) (by rfl) (fun o ho K hK => ?_)
        simp only [List.getElem?_toArray, List.getElem?_cons_succ, List.getElem?_cons_zero, Option.some.injEq] at ho; subst ho
        go_simp
        have s9 := s8.set (a := ⟨gb, 0, none⟩) hgX (.slice A1 (i + 1) c1)
        refine hK.out _ _ s9 (fun _ => ?_)
        clear hK K
        try simp only [Act.put, List.setIfInBounds_toArray, List.set_cons_zero, List.set_cons_succ]
        refine wpAnyH_done (by kernel_rfl) ?_ _
        refine NoPanic.normal ?_
        have HOX := Lib.hid (((HO.out.on (by omega) bw4).grown (by omega) hg1 (fun r e => .inl (hOA.lt r e).1)).set (a := ⟨gb, 0, none⟩) (by simp) (.slice A1 (i + 1) c1))
        have HBX := Lib.hid (hb1.set_ (.slice A1 (i + 1) c1))
        rw [← HTK.out] at ho1
        have HWX := Lib.hid (ho1.kept (w' := w8.setCell ⟨gb, 0, none⟩ (.slice A1 (i + 1) c1)) (by simp [World.setCell]) (fun g e => Below.heap_setCell _ _ _ g (by have := (ho1.lt g e).1; show g ≠ gb; omega)))
        clear s2 s3 s4 s8 s9 b2 b3 bw2 bw3 bw4 hc2 hc3 hc4 hc8 hf8 hb1 hg1 ho1 hOA
        go_wp2
        go_roundw
        case rel => exact ⟨i + 1, A1, c1, hlt, by go_num, HOX, HBX, HWX⟩
        case measure => simp [intOf]; omega
      · simp only [List.getElem?_toArray, List.getElem?_cons_succ, List.getElem?_cons_zero, Option.some.injEq] at ho; subst ho
        go_simp
        (go_at_call 33; (with_reducible refine (HCC.out _).mono ?_); rintro e3 w3 ⟨rfl, b3⟩)
        have s3 : Ov W1.heap.size X W1 w3 := s2.on (Nat.le_refl _) b3
        have bw3 := below_up bw2 bw2.size b3
        have hc3 := (HB.out.on bw3).cell
        have s4 := s3.on (Nat.le_refl _) (below_alloc_ w3 (.cells (lS.v e) 89))
        have bw4 := bw3.alloc bw3.size (.cells (lS.v e) 89)
        have hc4 := (HB.out.on bw4).cell
        refine hK.out _ _ s3 (fun _ => ?_)
        clear hK K
        try simp only [Act.put, List.setIfInBounds_toArray, List.set_cons_zero, List.set_cons_succ]
        refine forkS 0 7 (by kernel_rfl) (by rfl) (by rfl) (fun o ho K hK => ?_) (fun o ho K hK => ?_)
        · simp only [List.getElem?_toArray, List.getElem?_cons_succ, List.getElem?_cons_zero, Option.some.injEq] at ho; subst ho
          go_simp
          refine hK.out _ _ s3 (fun _ => ?_)
          clear hK K
          try simp only [Act.put, List.setIfInBounds_toArray, List.set_cons_zero, List.set_cons_succ]
          refine nextS 7 (by kernel_rfl) (by rfl) (fun o ho K hK => ?_)
          simp only [List.getElem?_toArray, List.getElem?_cons_succ, List.getElem?_cons_zero, Option.some.injEq] at ho; subst ho
          go_simp
          refine hK.out _ _ s4 (fun _ => ?_)
          clear hK K
          try simp only [Act.put, List.setIfInBounds_toArray, List.set_cons_zero, List.set_cons_succ]
          have hOA := HW.out.on bw4
          refine nextS 8 (by kernel_rfl) (by rfl) (fun o ho K hK => ?_)
          simp only [List.getElem?_toArray, List.getElem?_cons_succ, List.getElem?_cons_zero, Option.some.injEq] at ho; subst ho
          refine wp_gapp _ item_under item_info (by kernel_rfl) (by decide) (by decide) (.tmp 19) (.tmp 26) rfl rfl hOA rfl (rw_shp lS w3 e 89 _ rfl) (lS.one e) (by omega) ?_
          intro A1 c1 w8 ho1 hg1
          have s8 := s4.grown (Nat.le_refl _) hg1 (fun r e => .inr (hrX r e))
          refine hK.out _ _ s8 (fun _ => ?_)
          clear hK K
          try simp only [Act.put, List.setIfInBounds_toArray, List.set_cons_zero, List.set_cons_succ]
          have hb1 := (HB.out.on bw4).grown hg1 (fun e => by have := (hOA.lt _ e.symm).1; omega)
          have hc8 := hb1.cell
          have hf8 := hb1.free
          refine nextS 9 (by kernel_rfl) (by rfl) (fun o ho K hK => ?_)
          simp only [List.getElem?_toArray, List.getElem?_cons_succ, List.getElem?_cons_zero, Option.some.injEq] at ho; subst ho
          go_simp
          have s9 := s8.set (a := ⟨gb, 0, none⟩) hgX (.slice A1 (i + 1) c1)
          refine hK.out _ _ s9 (fun _ => ?_)
          clear hK K
          try simp only [Act.put, List.setIfInBounds_toArray, List.set_cons_zero, List.set_cons_succ]
          refine wpAnyH_done (by kernel_rfl) ?_ _
          refine NoPanic.normal ?_
          have HOX := Lib.hid (((HO.out.on (by omega) bw4).grown (by omega) hg1 (fun r e => .inl (hOA.lt r e).1)).set (a := ⟨gb, 0, none⟩) (by simp) (.slice A1 (i + 1) c1))
          have HBX := Lib.hid (hb1.set_ (.slice A1 (i + 1) c1))
          rw [← HTK.out] at ho1
          have HWX := Lib.hid (ho1.kept (w' := w8.setCell ⟨gb, 0, none⟩ (.slice A1 (i + 1) c1)) (by simp [World.setCell]) (fun g e => Below.heap_setCell _ _ _ g (by have := (ho1.lt g e).1; show g ≠ gb; omega)))
          clear s2 s3 s4 s8 s9 b2 b3 bw2 bw3 bw4 hc2 hc3 hc4 hc8 hf8 hb1 hg1 ho1 hOA
          go_wp2
          go_roundw
          case rel => exact ⟨i + 1, A1, c1, hlt, by go_num, HOX, HBX, HWX⟩
          case measure => simp [intOf]; omega
        · simp only [List.getElem?_toArray, List.getElem?_cons_succ, List.getElem?_cons_zero, Option.some.injEq] at ho; subst ho
          go_simp
          refine hK.out _ _ s4 (fun _ => ?_)
          clear hK K
          try simp only [Act.put, List.setIfInBounds_toArray, List.set_cons_zero, List.set_cons_succ]
          refine nextS 0 (by kernel_rfl) (by rfl) (fun o ho K hK => ?_)
          simp only [List.getElem?_toArray, List.getElem?_cons_succ, List.getElem?_cons_zero, Option.some.injEq] at ho; subst ho
          go_simp
          refine hK.out _ _ s4 (fun _ => ?_)
          clear hK K
          try simp only [Act.put, List.setIfInBounds_toArray, List.set_cons_zero, List.set_cons_succ]
          have hOA := HW.out.on bw4
          refine nextS 8 (by kernel_rfl) (by rfl) (fun o ho K hK => ?_)
          simp only [List.getElem?_toArray, List.getElem?_cons_succ, List.getElem?_cons_zero, Option.some.injEq] at ho; subst ho
          refine wp_gapp _ item_under item_info (by kernel_rfl) (by decide) (by decide) (.tmp 19) (.tmp 26) rfl rfl hOA rfl (rw_shp lS w3 e 89 _ rfl) (lS.one e) (by omega) ?_
          intro A1 c1 w8 ho1 hg1
          have s8 := s4.grown (Nat.le_refl _) hg1 (fun r e => .inr (hrX r e))
          refine hK.out _ _ s8 (fun _ => ?_)
          clear hK K
          try simp only [Act.put, List.setIfInBounds_toArray, List.set_cons_zero, List.set_cons_succ]
          have hb1 := (HB.out.on bw4).grown hg1 (fun e => by have := (hOA.lt _ e.symm).1; omega)
          have hc8 := hb1.cell
          have hf8 := hb1.free
          refine nextS 9 (by kernel_rfl) (by rfl) (fun o ho K hK => ?_)
          simp only [List.getElem?_toArray, List.getElem?_cons_succ, List.getElem?_cons_zero, Option.some.injEq] at ho; subst ho
          go_simp
          have s9 := s8.set (a := ⟨gb, 0, none⟩) hgX (.slice A1 (i + 1) c1)
          refine hK.out _ _ s9 (fun _ => ?_)
          clear hK K
          try simp only [Act.put, List.setIfInBounds_toArray, List.set_cons_zero, List.set_cons_succ]
          refine wpAnyH_done (by kernel_rfl) ?_ _
          refine NoPanic.normal ?_
          have HOX := Lib.hid (((HO.out.on (by omega) bw4).grown (by omega) hg1 (fun r e => .inl (hOA.lt r e).1)).set (a := ⟨gb, 0, none⟩) (by simp) (.slice A1 (i + 1) c1))
          have HBX := Lib.hid (hb1.set_ (.slice A1 (i + 1) c1))
          rw [← HTK.out] at ho1
          have HWX := Lib.hid (ho1.kept (w' := w8.setCell ⟨gb, 0, none⟩ (.slice A1 (i + 1) c1)) (by simp [World.setCell]) (fun g e => Below.heap_setCell _ _ _ g (by have := (ho1.lt g e).1; show g ≠ gb; omega)))
          clear s2 s3 s4 s8 s9 b2 b3 bw2 bw3 bw4 hc2 hc3 hc4 hc8 hf8 hb1 hg1 ho1 hOA
          go_wp2
          go_roundw
          case rel => exact ⟨i + 1, A1, c1, hlt, by go_num, HOX, HBX, HWX⟩
          case measure => simp [intOf]; omega
    · have hln : i = l.length := by omega
      subst hln
      have i1 : ¬ ((l.length : Int) < (l.length : Int)) := by omega
      have hcB := HB.out.cell
      have hfB := HB.out.free
      go_wp2
      refine leaves_cons (f := 48) (args := #[.pointer (some ⟨gb, 0, none⟩)]) (by simp) (by simp [go_sem]) ?_
      refine (catch_idle ⟨gb, 0, none⟩ _).mono ?_
      rintro e u' w'' ⟨rfl, rfl, rfl⟩
      have B6 := HB.out.set_ (.slice A l.length c)
      have hc6 := B6.cell
      have hOx : Ow 89 26 w5.heap.size (wr.setCell ⟨gb, 0, none⟩ (.slice A l.length c)) A l.length c (lS.rcs l) := by
        have := HW.out
        rw [List.take_length] at this
        exact this.kept (by simp [World.setCell]) (fun g e => Below.heap_setCell _ _ _ g (by have := (HW.out.lt g e).1; show g ≠ gb; omega))
      have hD := dt_of hOx
      have hfin : Below gb w (wr.setCell ⟨gb, 0, none⟩ (.slice A l.length c)) := HBW5.out.trans ((HO.out.set (a := ⟨gb, 0, none⟩) (by simp) (.slice A l.length c)).below (b := gb) (by omega) (fun x hx => by simp at hx; omega))
      have HD := Lib.hid hD
      have HF := Lib.hid hfin
      clear hOx hD hfin
      simp [Leaves, settle, results, Try.results32, go_sem, hc6]
      refine ⟨HD.out, ?_⟩
      exact HF.out
end Go.Proofs.Ytkhjnfplcaffnaa
set_option linter.unusedVariables false
set_option linter.unusedSimpArgs false
set_option maxRecDepth 100000
namespace Go.Proofs.Ytkhjnfplcaffnaa
open Go.RowKit
attribute [local go_sem ↓] Go.wp_at_zero Go.wp_at_succ ld_k lv_k st_k eq_k ne_k bd_k ld_b lv_b st_b eq_b ne_b bd_25 ld_r lv_r st_rk eq_rk ne_rk bd_r ld_p lv_p st_px bd_p Nm.ld_a Nm.ld_n Nm.st_a Nm.st_n Nm.eq_a Nm.eq_n Nm.ne_a Nm.ne_n Nm.lv_a Nm.lv_n ld_a ld_n st_a st_n eq_a eq_n ne_a ne_n lv_a lv_n ld_l lv_l st_l bd_l bd_n bs_l bs_k ld_e lv_e bd_e bs_e ld_ac lv_ac st_ac bd_i st_i bs_i
attribute [local go_sem] run_ldk run_lvk run_stk run_eqk run_nek run_bdk_z run_ldb run_lvb run_stb run_eqb run_neb run_ldr run_lvr run_strk run_eqrk run_nerk run_bdr_z run_ldp run_lvp run_stpx Nm.run_ld_a Nm.run_ld_n Nm.run_st_n Nm.run_eq_a Nm.run_eq_n Nm.run_ne_a Nm.run_ne_n Nm.run_lv_a Nm.run_lv_n Nm.rd_new Nm.rd_old Nm.rd_drew Nm.rd_drewN run_ld_a run_ld_n run_sw_a run_sw_n run_eq_a run_eq_n run_ne_a run_ne_n run_lv_a run_lv_n st_z ne_z eq_z rd_new rd_old rd_drew rd_drewN Shp.rd_new Shp.rd_old Shp.rd_drew Shp.rd_drewN Shp.rd_set Shp.tn_new Shp.tn_old Shp.tn_drew Shp.tn_drewN tn_new tn_old tn_drew tn_drewN rd_set setRow_alloc run_stn3 run_stt15 run_lvl run_ldl run_stl run_bdl run_bdn run_bdn0 run_bsl run_bsk run_lde run_lve run_bde run_bse run_bse0 run_lda run_lva run_sta Shp.rd_extk cell_ext run_bdi run_sti run_bsi

theorem lr {w : World} {ad : Addr} {i : Nat} {e : Lf} (h : lS.rd w (ad.add (i * 26)) = some e) : kS.rd w (ad.add (i * 26)) = some e.1 ∧ w.cell? ⟨(ad.add (i * 26)).block, (ad.add (i * 26)).off + 25, none⟩ = some (.int .i64 e.2) := by
  have hc := Shp.at_of h
  have hl : (bys e.1.l).length = 25 := by rw [bys_len, e.1.len]
  refine ⟨Shp.rd_of fun j u hu => ?_, ?_⟩
  · have hj : j < (bys e.1.l).length := (List.getElem?_eq_some_iff.1 hu).1
    exact hc j u (by
      show (bys e.1.l ++ [Value.int .i64 e.2])[j]? = some u
      rw [List.getElem?_append_left hj]; exact hu)
  · have := hc 25 (.int .i64 e.2) (by
      show (bys e.1.l ++ [Value.int .i64 e.2])[25]? = some (.int .i64 e.2)
      rw [List.getElem?_append_right (by omega), hl]; rfl)
    have e2 : (ad.add (i * 26)).add 25 = ⟨(ad.add (i * 26)).block, (ad.add (i * 26)).off + 25, none⟩ := by unfold Addr.add; simp
    rwa [e2] at this
set_option maxHeartbeats 4000000 in
theorem holds_any {w : World} {g : Nat} {o : Option Tk} {A : Option Addr} {c : Nat} (hT : TC w g o) (hr : Shp.Row eS w A (Cr.Tr.lso o).length (Cr.Tr.lso o)) :
    Calls Try.prog 14 #[.pointer (some ⟨g, 0, none⟩), .slice A (Cr.Tr.lso o).length c] w fun e w' => e = .returned (.bool true) ∧ Below w.heap.size w w' := by
  have CM := Lib.hid (map_any g o w hT.tr)
  have CL := Lib.hid (fun W (hW : Below w.heap.size w W) => len_any g o W (hT.on hW))
  have COF := Lib.hid (fun (x : D.Ky) W => lawof_any x W)
  have HR := Lib.hid (fun W (hW : Below w.heap.size w W) => hr.on hW)
  obtain ⟨l, hl⟩ : ∃ l, Cr.Tr.lso o = l := ⟨_, rfl⟩
  have hz := hT.tr.sz
  rw [hl] at CM CL HR hz ⊢
  clear hT hr hl
  go_enter Try.func14, Try.ntmps14
  go_wp2_with (first
    | (go_at_call 32; (with_reducible refine CM.out.mono ?_); rintro e w1 ⟨A1, c1, rfl, hd1, b1⟩; have HD1 := Lib.hid hd1; have B1 := Lib.hid b1; have CL1 := Lib.hid (CL.out w1 b1); clear hd1 b1)
    | (go_at_call 34; (with_reducible refine CL1.out.mono ?_); rintro e w2 ⟨rfl, rfl⟩)
    | fail)
  go_loopw [6] (fun s6 wx => ∃ (i : Nat), i ≤ l.length ∧ s6 = .int .i64 i ∧ Hid (Below w1.heap.size w1 wx)) (fun s6 _ => l.length - (intOf s6).toNat)
  case atStart => exact ⟨0, Nat.zero_le _, rfl, Lib.hid (Below.refl _ _)⟩
  case round =>
    obtain ⟨i, hil, rfl, HW⟩ := hrel
    have i0 : (0 : Int) ≤ (i : Int) := by omega
    by_cases hlt : i < l.length
    · have i1 : (i : Int) < (l.length : Int) := by omega
      obtain ⟨e, he⟩ : ∃ e, l[i]? = some e := ⟨_, List.getElem?_eq_getElem hlt⟩
      have BW := Lib.hid (B1.out.trans (HW.out.mono B1.out.size))
      obtain ⟨ad, hAe, hal, hrd⟩ := (HR.out wr BW.out).rd he
      subst hAe
      obtain ⟨r1, r2⟩ := er hrd
      have r3 : (ad.add (i * 26)).block < wr.heap.size := Shp.rd_lt r1
      obtain ⟨ax, hAx, hax, hrx⟩ := (HD1.out.on HW.out).row.rd he
      subst hAx
      obtain ⟨s1, s2⟩ := lr hrx
      have s3 : (ax.add (i * 26)).block < wr.heap.size := Shp.rd_lt s1
      have CO1 := Lib.hid (fun (p : On) => COF.out e.1 (ext wr p))
      have hsm := sm_toR e.1 e.1
      rw [decide_eq_true rfl] at hsm
      clear hrd he hrx hal hax
      go_wp2_with fail
      refine wp_region_ext (by kernel_rfl) (by kernel_rfl) ?_
      repeat (go_big_quiet_step ((go_at_call 8; with_reducible exact calls_ext (CO1.out _))))
      refine wpQuiet_nil ?_
      intro w5 hw5
      have b5 := ext_to hw5
      clear hw5
      go_wp2
      go_roundw
      case rel => exact ⟨i + 1, hlt, by go_num, Lib.hid (HW.out.trans (b5.mono HW.out.size))⟩
      case measure => simp [intOf]; omega
    · have i1 : ¬ ((i : Int) < (l.length : Int)) := by omega
      go_wp2
      go_ret
      exact ⟨rfl, B1.out.trans (HW.out.mono B1.out.size)⟩
end Go.Proofs.Ytkhjnfplcaffnaa
