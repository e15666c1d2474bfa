/-
  A nil table's Owners: a range over a function that gives nothing, a sort of nothing.
-/
import Derived.Test.YtgobbdfgjgjigaaGreatDoorInl
import Derived.Test.YtgobbdfgjgjigaaGreatDoorLayz
import Derived.RangeFuncNested
import Derived.LoopNIn
set_option linter.unusedVariables false
set_option linter.unusedSimpArgs false
set_option maxRecDepth 100000
namespace Go.Proofs.YtgobbdfgjgjigaaGreatDoor
open Go.RowKit Go.Shelf
attribute [local go_sem] Oper.semAt_some
attribute [local go_sem ↓] Go.wp_at_zero Go.wp_at_succ
theorem ckept {w w' : World} (hb : Below w.heap.size w w') {a : Addr} {v : Value} (h : w.cell? a = some v) : w'.cell? a = some v := (World.cell?_of_block (hb.block _ (World.block_lt_of_cell? w _ h))).trans h
theorem bel_put {n i : Nat} {w : World} (h : n ≤ i) (o : Obj) : Below n w (w.putObj i o) := ⟨rfl, rfl, rfl, by simp [World.putObj], fun k hk => World.putObj_heap_other (by omega)⟩
/-- A range over a function that gives nothing (it may turn what it likes but the loop's own two blocks). -/
theorem range_none {F : Fence} {n : Nat} {P : Program} {g : Operand} {ps : Array Tmp} {assign body : Code} {Q : Exit → Act → World → Prop} {a : Act} {w : World} (hro : F.round = none) (h1 : 1 ≤ n) {gf : Nat} {bb lb : Array Value}
    (hg : a.eval g = .func (.func gf) bb lb) (hFg : F.fn gf) (eg : ∀ args w, (callFunc gf args).run P w = .ok (.enter gf args) w) {R : World → Prop}
    (hcall : ∀ (rec : Loop), CallsIn F (n - 1) P gf (bb ++ #[.func (.yield (w.heap.size + 1)) #[] #[]] ++ lb) ((w.alloc (.deferred (some []))).alloc (.loop rec)) fun e W => (∃ v, e = .returned v) ∧ R W ∧ W.heap[w.heap.size + 1]? = some (.loop rec) ∧ W.heap[w.heap.size]? = some (.deferred (some [])))
    (hdone : ∀ (o : Obj) (W : World), R W → W.heap[w.heap.size]? = some (.deferred (some [])) → (W.putObj (w.heap.size + 1) o).heap[w.heap.size]? = some (.deferred (some [])) → Q .normal { a with defers := { target := .collected w.heap.size, args := #[] } :: a.defers } (W.putObj (w.heap.size + 1) o)) :
    (Code.rangeFunc g ps assign body).wpIn F n P Q a w := by
  refine wpIn_rangeFunc ?_
  intro fn hfn
  rw [hro]
  obtain ⟨rec, hrec⟩ : ∃ rec : Loop, rec = { state := .ready, pending := none, fn, tmps := a.tmps, params := ps, assign, body, defers := w.heap.size } := ⟨_, rfl⟩
  have hC := hcall rec
  obtain ⟨W1, hW1⟩ : ∃ W1, (w.alloc (.deferred (some []))).alloc (.loop rec) = W1 := ⟨_, rfl⟩
  rw [hW1] at hC
  refine ⟨w.heap.size + 1, [{ target := .collected w.heap.size, args := #[] }], W1, { target := .fn (.func gf) lb, args := bb ++ #[.func (.yield (w.heap.size + 1)) #[] #[]] }, W1, gf, bb ++ #[.func (.yield (w.heap.size + 1)) #[] #[]] ++ lb, W1, ?_, ?_, ?_, ?_, fun _ => h1, ?_⟩
  · rw [← hW1, hrec]; exact run_enterLoop_outer _ _ _ _ _
  · simp only [resolve, hg]
    simp [go_sem]
  · intro f' hf'
    simp [Target.leads] at hf'
    subst hf'; exact hFg
  · simp [invoke, go_sem, eg]
  · refine hC.mono ?_
    rintro e W ⟨⟨v, rfl⟩, hR, hl, hd⟩
    have hp : rec.pending = none := by rw [hrec]
    have he := run_endLoop (P := P) hl (by rw [hrec]; simp)
    rw [hp] at he
    refine ⟨none, _, he, ?_⟩
    exact hdone _ W hR hd ((World.putObj_heap_other (by omega)).trans hd)
set_option maxHeartbeats 1000000 in
theorem nvals_in (n : Nat) (l Bm : Nat) (W : World) (hm : W.cell? ⟨Bm, 0, none⟩ = some (.map none)) :
    CallsIn Fence.wide n Tryz.prog 41 #[.func (.yield l) #[] #[], .pointer (some ⟨Bm, 0, none⟩)] W fun e W' => (∃ v, e = .returned v) ∧ Below W.heap.size W W' := by
  refine callsIn_of_wp Tryz.func41 rfl trivial ?_ rfl
  simp only [Tryz.ntmps41, List.size_toArray, List.length_cons, List.length_nil, Nat.reduceAdd, Nat.reduceSub, Array.replicate_succ, Array.replicate_zero, List.push_toArray, List.append_toArray, List.nil_append, List.cons_append]
  have hrg := run_range_nilMap (P := Tryz.prog) W 31 30 3 Tryz.underlying31
  have hnx : ∀ ty, (Instr.next (.pointer (some ⟨W.heap.size, 0, none⟩)) false ty).run Tryz.prog (W.alloc (.mapIter none 0 #[] 0)) = _ := fun ty => run_next_nilMap _ ty 0 0 #[]
  gi_wp2
  refine wpIn_loop_rounds 1 ?_
  rw [roundsIn_succ]
  gi_wp2
  go_end0
  exact ⟨⟨_, rfl⟩, below_alloc_ _ _⟩
set_option maxHeartbeats 4000000 in
theorem apps_nil (Bm : Nat) (w : World) (hm : w.cell? ⟨Bm, 0, none⟩ = some (.map none)) :
    Calls Tryz.prog 67 #[.slice none 0 0, .func (.func 41) #[] #[.pointer (some ⟨Bm, 0, none⟩)]] w fun e w' => e = .returned (.slice none 0 0) ∧ Below w.heap.size w w' := by
  refine (callsIn_wide (n := 10)).1 ?_
  refine callsIn_of_wp_marks Tryz.func67 rfl trivial ?_ rfl
  simp only [Tryz.ntmps67, List.size_toArray, List.length_cons, List.length_nil, Nat.reduceAdd, Nat.reduceSub, Array.replicate_succ, Array.replicate_zero, List.push_toArray, List.append_toArray, List.nil_append, List.cons_append]
  gi_wp2
  have hB := Blk.new w 61 #[.slice none 0 0]
  have hbel : Below w.heap.size w (w.alloc (.cells #[.slice none 0 0] 61)) := below_alloc_ _ _
  have hm3 := ckept hbel hm
  obtain ⟨w3, hw3⟩ : ∃ w3, w.alloc (.cells #[.slice none 0 0] 61) = w3 := ⟨_, rfl⟩
  have hz3 : w3.heap.size = w.heap.size + 1 := by rw [← hw3]; simp
  rw [hw3] at hB hbel hm3
  try rw [hw3]
  clear hw3
  refine range_none rfl (by decide) (gf := 41) (bb := #[]) (lb := #[.pointer (some ⟨Bm, 0, none⟩)]) rfl trivial (enters_of Tryz.func41 (by kernel_rfl) rfl) (R := fun W => Below w3.heap.size w3 W) (fun rec => ?_) (fun o W hR hd hd2 => ?_)
  · have b2 : Below w3.heap.size w3 ((w3.alloc (.deferred (some []))).alloc (.loop rec)) := (below_alloc_ _ _).alloc (by simp) _
    have hl : ((w3.alloc (.deferred (some []))).alloc (.loop rec)).heap[w3.heap.size + 1]? = some (.loop rec) := by
      have := World.alloc_heap_new (w3.alloc (.deferred (some []))) (.loop rec)
      rwa [World.size_alloc] at this
    have hk : ((w3.alloc (.deferred (some []))).alloc (.loop rec)).heap[w3.heap.size]? = some (.deferred (some [])) := (Below.heap_alloc _ _ _ (by simp)).trans (World.alloc_heap_new w3 _)
    obtain ⟨W1, hW1'⟩ : ∃ W1, (w3.alloc (.deferred (some []))).alloc (.loop rec) = W1 := ⟨_, rfl⟩
    rw [hW1'] at b2 hl hk ⊢
    refine (nvals_in 9 (w3.heap.size + 1) Bm W1 (ckept b2 hm3)).mono ?_
    rintro e W ⟨hu, o2⟩
    have hsz := (Array.getElem?_eq_some_iff.1 hl).1
    exact ⟨hu, b2.trans (o2.mono b2.size), (o2.block _ hsz).trans hl, (o2.block _ (by omega)).trans hk⟩
  · have c3 : (W.putObj (w3.heap.size + 1) o).cell? ⟨w.heap.size, 0, none⟩ = some (.slice none 0 0) := by
      have h2 : (W.putObj (w3.heap.size + 1) o).heap[w.heap.size]? = W.heap[w.heap.size]? := World.putObj_heap_other (by omega)
      have hB : Blk (W.putObj (w3.heap.size + 1) o) w.heap.size 61 #[.slice none 0 0] := ⟨h2.trans ((hR.block _ (by omega)).trans hB.out)⟩
      exact hB.cell
    have bel : Hid (∀ o', Below w.heap.size w ((W.putObj (w3.heap.size + 1) o).putObj w3.heap.size o')) := Lib.hid fun o' =>
      ((hbel.trans (hR.mono (by omega))).trans (bel_put (by omega) _)).trans (bel_put (by omega) _)
    clear hR
    obtain ⟨W2, hW2⟩ : ∃ W2, W.putObj (w3.heap.size + 1) o = W2 := ⟨_, rfl⟩
    rw [hW2] at c3 hd2 bel ⊢
    rw [hz3] at hd2 bel
    clear hW2 hd
    gi_wp2
    refine ⟨by simp, .inl ⟨_, _, rfl, run_takeDeferred hd2, ?_⟩⟩
    exact ⟨_, results_tmp rfl _ _ _, rfl, bel.out _⟩
theorem coll_nil (Bm : Nat) (w : World) (hm : w.cell? ⟨Bm, 0, none⟩ = some (.map none)) :
    Calls Tryz.prog 39 #[.func (.func 41) #[] #[.pointer (some ⟨Bm, 0, none⟩)]] w fun e w' => e = .returned (.slice none 0 0) ∧ Below w.heap.size w w' := by
  have CA := Lib.hid (apps_nil Bm w hm)
  go_enter Tryz.func39, Tryz.ntmps39
  go_wp2_with (go_at_call 67; (with_reducible refine CA.out.mono ?_); rintro e w1 ⟨rfl, b1⟩; have HB := Lib.hid b1; clear b1)
  go_ret
  exact ⟨rfl, HB.out⟩
theorem ins_none (w : World) : Calls Tryz.prog 83 #[.slice none 0 0, .int .i64 0, .int .i64 0] w fun e w' => (∃ v, e = .returned v) ∧ w = w' := by
  go_enter Tryz.func83, Tryz.ntmps83
  go_wp2_with fail
  refine wp_loop_rounds 1 ?_
  rw [rounds_succ]
  go_wp2
  all_goals first | (exfalso; omega) | (go_end0; exact ⟨⟨_, rfl⟩, rfl⟩)
theorem pdq_none (lim : Int) (w : World) : Calls Tryz.prog 68 #[.slice none 0 0, .int .i64 0, .int .i64 0, .int .i64 lim] w fun e w' => (∃ v, e = .returned v) ∧ w = w' := by
  have CI := Lib.hid (fun W => ins_none W)
  go_enter Tryz.func68, Tryz.ntmps68
  go_wp2_with fail
  refine wp_loop_rounds 1 ?_
  rw [rounds_succ]
  go_wp2_with (go_at_call 83; (with_reducible refine (CI.out _).mono ?_); rintro e w1 ⟨⟨v, rfl⟩, rfl⟩)
  all_goals first | (exfalso; omega) | (refine bodyPost_ret (results_none rfl _ _ _) rfl ?_; exact ⟨⟨_, rfl⟩, rfl⟩)
theorem compact_none (w : World) : Calls Tryz.prog 26 #[.slice none 0 0] w fun e w' => e = .returned (.slice none 0 0) ∧ w = w' := by
  go_enter Tryz.func26, Tryz.ntmps26
  go_wp2
  go_ret
  exact ⟨rfl, rfl⟩
theorem blen_zero (W : World) : Calls Tryz.prog 37 #[.int .u64 0] W fun e w' => e = .returned (.int .i64 0) ∧ w' = W := by
  have := Any.bits_Len lays125 0 W (by omega) (by omega)
  exact this
theorem sort_none (w : World) : Calls Tryz.prog 40 #[.slice none 0 0] w fun e w' => (∃ v, e = .returned v) ∧ w = w' := by
  have CB := Lib.hid (fun W => blen_zero W)
  have CP := Lib.hid (fun l W => pdq_none l W)
  go_enter Tryz.func40, Tryz.ntmps40
  go_wp2_with (first
    | (go_at_call 37; (with_reducible refine (CB.out _).mono ?_); rintro e w1 ⟨rfl, rfl⟩)
    | (go_at_call 68; (with_reducible refine (CP.out _ _).mono ?_); rintro e w1 ⟨⟨v, rfl⟩, rfl⟩))
  go_end0
  exact ⟨⟨_, rfl⟩, rfl⟩
theorem sorted_none (Bm : Nat) (w : World) (hm : w.cell? ⟨Bm, 0, none⟩ = some (.map none)) :
    Calls Tryz.prog 27 #[.func (.func 41) #[] #[.pointer (some ⟨Bm, 0, none⟩)]] w fun e w' => e = .returned (.slice none 0 0) ∧ Below w.heap.size w w' := by
  have CA := Lib.hid (coll_nil Bm w hm)
  have CS := Lib.hid (fun W => sort_none W)
  go_enter Tryz.func27, Tryz.ntmps27
  go_wp2_with (first
    | (go_at_call 39; (with_reducible refine CA.out.mono ?_); rintro e w1 ⟨rfl, b1⟩; have HB := Lib.hid b1; clear b1)
    | (go_at_call 40; (with_reducible refine (CS.out _).mono ?_); rintro e w2 ⟨⟨v, rfl⟩, rfl⟩))
  go_ret
  exact ⟨rfl, HB.out⟩
theorem values_none (w : World) : Calls Tryz.prog 28 #[.map none] w fun e w' => e = .returned (.func (.func 41) #[] #[.pointer (some ⟨w.heap.size, 0, none⟩)]) ∧ w' = w.alloc (.cells #[.map none] 31) := by
  go_enter Tryz.func28, Tryz.ntmps28
  go_wp2
  go_ret
  exact ⟨rfl, rfl⟩
theorem owners_nil (w : World) : Calls Tryz.prog 17 #[.pointer none] w fun e w' => e = .returned (.slice none 0 0) ∧ Below w.heap.size w w' := by
  have CA := Lib.hid (fun W => all_none W)
  have CV := Lib.hid (fun W => values_none W)
  have CS := Lib.hid (sorted_none w.heap.size (w.alloc (.cells #[.map none] 31)) ((Blk.new w _ _).cell))
  have CC := Lib.hid (fun W => compact_none W)
  have HB := Lib.hid (below_alloc_ w (.cells #[.map none] 31))
  go_enter Tryz.func17, Tryz.ntmps17
  go_wp2_with (first
    | (go_at_call 22; (with_reducible refine (CA.out _).mono ?_); rintro e w1 ⟨rfl, rfl⟩)
    | (go_at_call 28; (with_reducible refine (CV.out _).mono ?_); rintro e w1 ⟨rfl, rfl⟩)
    | (go_at_call 27; (with_reducible refine CS.out.mono ?_); rintro e w1 ⟨rfl, b1⟩; have HB1 := Lib.hid (below_up HB.out HB.out.size b1); clear b1)
    | (go_at_call 26; (with_reducible refine (CC.out _).mono ?_); rintro e w1 ⟨rfl, rfl⟩))
  go_ret
  exact ⟨rfl, HB1.out⟩
attribute [local go_sem ↓] Go.wp_at_zero Go.wp_at_succ ld_k lv_k st_k eq_k ne_k bd_k Nm.ld_a Nm.ld_n Nm.st_a Nm.st_n Nm.eq_a Nm.eq_n Nm.ne_a Nm.ne_n Nm.lv_a Nm.lv_n ld_a ld_n st_a st_n eq_a eq_n ne_a ne_n lv_a lv_n
attribute [local go_sem] run_ldk run_lvk run_stk run_eqk run_nek run_bdk_z Nm.run_ld_a Nm.run_ld_n Nm.run_st_n Nm.run_eq_a Nm.run_eq_n Nm.run_ne_a Nm.run_ne_n Nm.run_lv_a Nm.run_lv_n Nm.rd_new Nm.rd_old Nm.rd_drew Nm.rd_drewN run_ld_a run_ld_n run_sw_a run_sw_n run_eq_a run_eq_n run_ne_a run_ne_n run_lv_a run_lv_n st_z ne_z eq_z rd_new rd_old rd_drew rd_drewN Shp.rd_new Shp.rd_old Shp.rd_drew Shp.rd_drewN Shp.rd_set Shp.tn_new Shp.tn_old Shp.tn_drew Shp.tn_drewN setRow_alloc run_stn3 run_stt15 bdk1 bdk2 bdk3 bdk4
attribute [local go_sem ↓] bsk_k
attribute [local go_sem] run_bsk1 run_bsk2
set_option maxHeartbeats 4000000 in
theorem law_nil (o : Int) (k : D.Ky) (w : World) : Calls Tryz.prog 4 #[.int .i64 o, .agg (kS.v k)] w fun e w' => e = .returned (.bool true) ∧ Below w.heap.size w w' := by
  obtain ⟨g, hg⟩ : ∃ g, w.heap.size = g := ⟨_, rfl⟩
  have b0 := below_alloc_ w (.cells (kS.v k) 30)
  have f0 := Shp.rd_new (S := kS) w w.heap.size 30 k rfl
  obtain ⟨w0, hw0⟩ : ∃ w0, w.alloc (.cells (kS.v k) 30) = w0 := ⟨_, rfl⟩
  rw [hw0, hg] at b0 f0
  have z0 : w0.heap.size = g + 1 := by rw [← hw0]; simp [hg]
  have FK : Hid (∀ W, Below (g + 1) w0 W → kS.rd W ⟨g, 0, none⟩ = some k) := Lib.hid fun W hW => (Shp.rd_to (hW.block g (by omega))).trans f0
  have BW : Hid (∀ W, Below (g + 1) w0 W → Below g w W) := Lib.hid fun W hW => b0.trans (hW.mono (by omega))
  have B0 : Hid (Below (g + 1) w0 w0) := Lib.hid (Below.refl _ _)
  have UP : Hid (∀ W W', Below (g + 1) w0 W → Below W.heap.size W W' → Below (g + 1) w0 W') := Lib.hid fun W W' h h' => h.trans (h'.mono (by have := h.size; omega))
  have CT : Hid (∀ W : World, ∀ A : Option Addr, Calls Tryz.prog 9 #[.pointer none, .int .i64 o, .slice A 1 1] W fun e w' => e = .returned (.tuple #[.int .i64 0, .int .i64 9]) ∧ W = w') := Lib.hid fun W A => take_nil
  have CO := Lib.hid (fun W x => owner_nil W x)
  have CF := Lib.hid (fun W o => first_nil W o)
  have CK := Lib.hid (fun W => known_any W)
  have CD : Hid (∀ W H, H = W.heap.size → Calls Tryz.prog 8 #[.pointer none, .int .i64 o, .slice (some ⟨H, 0, none⟩) 1 1] (W.alloc (.cells (kS.v k) 30)) fun e w' => e = .returned (.int .i64 0) ∧ Below W.heap.size W w') := Lib.hid fun W H hH => by
    subst hH
    exact (drop_nil o (krow1 W k) (by omega)).mono fun e w' ⟨h1, h2⟩ => ⟨h1, (below_alloc_ W _).trans (h2.mono (by simp))⟩
  have CF2 := Lib.hid (fun W o => of_nil W o)
  have CW := Lib.hid (fun W => owners_nil W)
  have CL := Lib.hid (fun W => len_nil W)
  have HG := Lib.hid hg
  clear b0
  go_enter Tryz.func4, Tryz.ntmps4
  go_wp2_with fail
  try simp only [hg]
  try simp only [hw0]
  go_wp2_with fail
  have b1 := (B0.out).alloc (by rw [z0]; exact Nat.le_refl _) (.cells (kS.v k) 30)
  have HB1 := Lib.hid b1
  have kk1 := FK.out _ b1
  clear b1
  obtain ⟨W1, hW1⟩ : ∃ W1, w0.alloc (.cells (kS.v k) 30) = W1 := ⟨_, rfl⟩
  rw [hW1] at HB1 kk1
  try rw [hW1]
  go_wp2_with (first
    | (go_at_call 9; (with_reducible refine (CT.out _ _).mono ?_); rintro e w1 ⟨rfl, rfl⟩)
    | (go_at_call 10; (with_reducible refine (CO.out _ _).mono ?_); rintro e w2 ⟨rfl, b2⟩; have HB2 := Lib.hid (UP.out _ _ HB1.out b2); clear b2)
    | (go_at_call 12; (with_reducible refine (CF.out _ _).mono ?_); rintro e w3 ⟨rfl, b3⟩; have HB3 := Lib.hid (UP.out _ _ (UP.out _ _ HB2.out b3) (below_alloc_ w3 (.cells (kS.v D.zK) 30))); clear b3)
    | (go_at_call 18; (with_reducible refine (CK.out _).mono ?_); rintro e w4 ⟨rfl, b4⟩; have HB4 := Lib.hid (UP.out _ _ HB3.out b4); have kk4 := FK.out _ HB4.out; clear b4)
    | (go_at_call 8; (with_reducible refine (CD.out _ _ rfl).mono ?_); rintro e w5 ⟨rfl, b5⟩; have HB5 := Lib.hid (UP.out _ _ HB4.out b5); clear b5)
    | (go_at_call 15; (with_reducible refine (CF2.out _ _).mono ?_); rintro e w6 ⟨rfl, b6⟩; have HB6 := Lib.hid (UP.out _ _ HB5.out b6); clear b6)
    | (go_at_call 17; (with_reducible refine (CW.out _).mono ?_); rintro e w7 ⟨rfl, b7⟩; have HB7 := Lib.hid (UP.out _ _ HB6.out b7); clear b7)
    | (go_at_call 16; (with_reducible refine (CL.out _).mono ?_); rintro e w8 ⟨rfl, rfl⟩))
  go_ret
  exact ⟨rfl, by rw [HG.out]; exact BW.out _ HB7.out⟩
end Go.Proofs.YtgobbdfgjgjigaaGreatDoor
