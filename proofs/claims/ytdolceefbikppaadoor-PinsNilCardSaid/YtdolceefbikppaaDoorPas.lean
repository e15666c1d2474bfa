/-
  What a map of numbers by times gives, collected.
-/
import Derived.Test.YtdolceefbikppaaDoorPit
set_option linter.unusedVariables false
set_option linter.unusedSimpArgs false
set_option maxRecDepth 100000
namespace Go.Proofs.YtdolceefbikppaaDoor
open Go.RowKit Go.Shelf
attribute [local go_sem] Oper.semAt_some
attribute [local go_sem ↓] Go.wp_at_zero Go.wp_at_succ
/-- What a map's iterator gives. -/
structure Ks (w : World) (Bm : Nat) (L : List Nat) : Prop where
  out : ∀ W, Below w.heap.size w W → SeqStopsK Fence.wide 9 Tryd.prog 31 #[.pointer (some ⟨Bm, 0, none⟩)] (fun x : Nat => #[.int .u64 (x : Nat)]) KeepsWalks (fun ss => ss.Perm L) (fun _ => True) L.length W
theorem Ks.on {w w' : World} {Bm : Nat} {L : List Nat} (h : Ks w Bm L) (hb : Below w.heap.size w w') : Ks w' Bm L := ⟨fun W hW => h.out W (below_up hb hb.size hW)⟩
theorem ks_some {Bm b : Nat} {L : List Nat} {f : Nat → Nat} {w : World} (hm : w.cell? ⟨Bm, 0, none⟩ = some (.map (some b))) (hu : MpAt w b L f) : Ks w Bm L :=
  ⟨fun W hW => ukeys_stops 9 (by decide) Bm b L W (Nat.lt_of_lt_of_le (World.block_lt_of_cell? w _ hm) hW.size) (cell_kept_ hW hm) (hu.on hW)⟩
set_option maxHeartbeats 1000000 in
theorem nkeys_in (n : Nat) (hn : 1 ≤ n) (l Bm : Nat) (J Jx : List Nat → World → Prop) (W : World) (hJ : AbidesFrom W.heap.size J) (hm : W.cell? ⟨Bm, 0, none⟩ = some (.map none)) (h0 : J [] W) :
    CallsIn Fence.wide n Tryd.prog 31 #[.func (.yield l) #[] #[], .pointer (some ⟨Bm, 0, none⟩)] W fun e W' => (∃ v, e = .returned v) ∧
      ((∃ ss : List Nat, ss.Perm [] ∧ J ss W') ∨ (∃ pre, Jx pre W')) := by
  refine callsIn_of_wp Tryd.func31 rfl trivial ?_ rfl
  simp only [Tryd.ntmps31, List.size_toArray, List.length_cons, List.length_nil, Nat.reduceAdd, Nat.reduceSub, Array.replicate_succ, Array.replicate_zero, List.push_toArray, List.append_toArray, List.nil_append, List.cons_append]
  have hrg := run_range_nilMap (P := Tryd.prog) W 25 23 3 Tryd.underlying25
  have hnx : ∀ ty, (Instr.next (.pointer (some ⟨W.heap.size, 0, none⟩)) false ty).run Tryd.prog (W.alloc (.mapIter none 0 #[] 0)) = _ := fun ty => run_next_nilMap _ ty 0 0 #[]
  gi_wp2
  refine wpIn_loop_rounds 1 ?_
  rw [roundsIn_succ]
  gi_wp2
  go_end0
  exact ⟨⟨_, rfl⟩, .inl ⟨[], .refl _, hJ [] W _ none h0 (World.grownBy_alloc W _ none) (fun r e => by cases e)⟩⟩
theorem ks_none {Bm : Nat} {w : World} (hm : w.cell? ⟨Bm, 0, none⟩ = some (.map none)) : Ks w Bm [] :=
  ⟨fun W0 hW0 => fun l J Jx W hW hJ _ hY h0 => (nkeys_in 9 (by decide) l Bm J Jx W hJ ((hW.cell (p := ⟨Bm, 0, none⟩) (Nat.lt_of_lt_of_le (World.block_lt_of_cell? w _ hm) hW0.size)).trans (cell_kept_ hW0 hm)) h0).mono fun e W' ⟨h1, h2⟩ => ⟨h1, h2.elim .inl fun ⟨pre, h⟩ => .inr ⟨pre, trivial, h⟩⟩⟩
/-- What has been gathered. -/
structure Got (w0 w : World) (B : Nat) (pre : List Nat) (A : Option Addr) (c : Nat) : Prop where
  box : Blk w B 52 #[.slice A pre.length c]
  own : Ow 23 1 (B + 1) w A pre.length c (wds pre)
  bel : Below w0.heap.size w0 w
  le : w0.heap.size ≤ B
  sz : B + 1 ≤ w.heap.size
theorem got_from {w0 : World} {B D0 : Nat} (hD : B + 1 ≤ D0) : OwnFrom D0 (fun (pre : List Nat) W => ∃ A c, Got w0 W B pre A c) := by
  rintro pre W W' row ⟨A, c, hG⟩ hg hr
  refine ⟨A, c, hG.box.grown hg ?_, hG.own.kept hg.size (fun g e => ?_), ?_, hG.le, Nat.le_trans hG.sz hg.size⟩
  · intro e
    have := (hr _ e.symm).1
    omega
  · have hgl := hG.own.lt g e
    refine hg.block g hgl.2 (fun e' => ?_)
    obtain ⟨_, o, ho, hc⟩ := hr g e'.symm
    have := (ow_cells hG.own g o e ho).1
    rw [hc] at this
    cases this
  · exact hG.bel.grown hg hG.bel.size (fun k e => by have := (hr k e).1; have := hG.le; omega)
theorem ow_base {base base' : Nat} {T : TypeId} {sz n c : Nat} {W : World} {A : Option Addr} {xs : List Value} (h : Ow T sz base W A n c xs) (hb : base' ≤ base) : Ow T sz base' W A n c xs := by
  refine ⟨⟨h.row.1, ?_⟩, Nat.le_trans hb h.base⟩
  rcases h.row.2 with hn | ⟨g, cap, cur, e, hg, r⟩
  · exact .inl hn
  · exact .inr ⟨g, cap, cur, e, Nat.le_trans hb hg, r⟩
set_option maxHeartbeats 4000000 in
theorem appendSeq_any (Bm : Nat) (L : List Nat) (w : World) (hK : Ks w Bm L) (hlen : L.length ≤ 1000) :
    Calls Tryd.prog 32 #[.slice none 0 0, .func (.func 31) #[] #[.pointer (some ⟨Bm, 0, none⟩)]] w fun e w' => ∃ (A : Option Addr) (c : Nat) (ss : List Nat), ss.Perm L ∧ e = .returned (.slice A ss.length c) ∧ Ow 23 1 w.heap.size w' A ss.length c (wds ss) ∧ Below w.heap.size w w' := by
  refine (callsIn_wide (n := 10)).1 ?_
  refine callsIn_of_wp_marks Tryd.func32 rfl trivial ?_ rfl
  simp only [Tryd.ntmps32, List.size_toArray, List.length_cons, List.length_nil, Nat.reduceAdd, Nat.reduceSub, Array.replicate_succ, Array.replicate_zero, List.push_toArray, List.append_toArray, List.nil_append, List.cons_append]
  gi_wp2
  have hB := Blk.new w 52 #[.slice none 0 0]
  have hbel : Below w.heap.size w (w.alloc (.cells #[.slice none 0 0] 52)) := below_alloc_ _ _
  have hu2 := hK.out _ hbel
  obtain ⟨w3, hw3⟩ : ∃ w3, w.alloc (.cells #[.slice none 0 0] 52) = w3 := ⟨_, rfl⟩
  have hz3 : w3.heap.size = w.heap.size + 1 := by rw [← hw3]; simp
  rw [hw3] at hB hbel hu2
  try rw [hw3]
  clear hw3
  have h0 : ∃ A c, Got w w3 w.heap.size [] A c := ⟨none, 0, hB, Ow.nil _ 1 (by omega), hbel, Nat.le_refl _, by omega⟩
  refine wpIn_rangeFunc_ownH rfl (by decide) (gf := 31) (lb := #[.pointer (some ⟨Bm, 0, none⟩)]) rfl trivial (enters_of Tryd.func31 (by kernel_rfl) rfl)
    hu2 (fun h k => h.trans k) walksK_b (Below.refl _ _) (fun _ => rfl)
    (fun pre W => ∃ A c, Got w W w.heap.size pre A c) (fun _ _ _ => False) (got_from (by omega)) (fun _ _ _ _ _ hs _ _ => hs) h0
    (fun y a' W => a' = { tmps := #[.slice none 0 0, .func (.func 31) #[] #[.pointer (some ⟨Bm, 0, none⟩)], .pointer (some ⟨w.heap.size, 0, none⟩), undef, .slice none 0 0, .int .u64 (y : Nat), .func (.func 31) #[] #[.pointer (some ⟨Bm, 0, none⟩)], .int .u64 (y : Nat), undef, undef, undef, undef, undef], defers := [] })
    (fun y a' s W W' row h3 hg hr => h3) ?assign ?body ?done ?stop
  case assign =>
    rintro l pre y W K ⟨A, c, hG⟩ hK
    gi_wp2
    exact hK _ _ ((KeepsOthers.refl _).from _) (KeepsWalks.refl _) ⟨A, c, hG⟩ rfl
  case body =>
    rintro l pre y a' W hl ⟨r, hr⟩ ⟨A, c, hG⟩ rfl hlt
    have hc := hG.box.cell
    have hf := hG.box.free
    gi_wp2_with (gi_at_builtin; refine gappIn _ u64_under u64_info rfl (by decide) (by decide) rfl (.tmp 8) (.tmp 10) rfl rfl (hG.own.alloc (.cells #[.int .u64 (y : Nat)] 23)) rfl (rw_new W 1 23 1 #[.int .u64 (y : Nat)] rfl) (by intro u hu; simp at hu; subst hu; rfl) (by omega) ?_; intro A1 c1 w1 ho1 hg1; have hb1 := (hG.box.alloc (.cells #[.int .u64 (y : Nat)] 23)).grown hg1 (fun e => by have := (hG.own.lt _ e.symm).1; omega); have hc1 := hb1.cell; have hf1 := hb1.free)
    have hsz := hG.sz
    have hz1 := hg1.size
    have hlp : (pre ++ [y]).length = pre.length + 1 := by simp
    have hoc := ow_cells (hG.own.alloc (.cells #[.int .u64 (y : Nat)] 23))
    refine ⟨?_, ((KeepsWalks.alloc W _).trans (KeepsWalks.of_grownBy hg1 fun j o e h => (hoc j o e h).2)).trans (KeepsWalks.setCell _ _ _), A1, c1, ?_, ?_, ?_, hG.le, ?_⟩
    · exact (((KeepsOthers.alloc W _).trans (KeepsOthers.of_grownBy hg1 fun j o e h => (hoc j o e h).1)).trans (KeepsOthers.setCell _ _ _)).from _
    · rw [hlp]; exact hb1.set_ _
    · rw [hlp, show wds (pre ++ [y]) = wds pre ++ [.int .u64 (y : Nat)] by simp [wds]]
      exact ho1.kept (by simp [World.setCell]) (fun g e => Below.heap_setCell _ _ _ g (by have := (ho1.lt g e).1; show g ≠ w.heap.size; omega))
    · exact ((hG.bel.alloc hG.bel.size _).grown hg1 (by have := hG.bel.size; simp; omega) (fun k e => by have := (hG.own.lt k e).1; omega)).setCell (Nat.le_refl _) _
    · simp only [World.setCell, Array.size_modify]; simp at hz1; omega
  case done =>
    rintro D0 ys W hD hp ⟨A, c, hG⟩ hK
    have hc := hG.box.cell
    gi_wp2
    refine ⟨by simp, .inl ⟨_, _, rfl, run_takeDeferred hK, ?_⟩⟩
    refine ⟨_, results_tmp rfl _ _ _, A, c, ys, hp, rfl, ow_base (hG.own.kept (by simp [World.putObj]) (fun g e => World.putObj_heap_other (fun e' => by subst e'; have := (ow_cells hG.own g _ e hK).1; cases this))) (by omega), hG.bel.trans (belowK_b (w := w) (Nat.le_refl _) W D0 _ _ (by omega) hK rfl rfl)⟩
  case stop =>
    rintro D0 c pre W _ _ h _
    exact h.elim
theorem mkeys_any (m : Option Nat) (w : World) : Calls Tryd.prog 28 #[.map m] w fun e w' => e = .returned (.func (.func 31) #[] #[.pointer (some ⟨w.heap.size, 0, none⟩)]) ∧ w' = w.alloc (.cells #[.map m] 25) := by
  go_enter Tryd.func28, Tryd.ntmps28
  go_wp2
  go_ret
  exact ⟨rfl, rfl⟩
theorem collect_any (Bm : Nat) (L : List Nat) (w : World) (hK : Ks w Bm L) (hlen : L.length ≤ 1000) :
    Calls Tryd.prog 29 #[.func (.func 31) #[] #[.pointer (some ⟨Bm, 0, none⟩)]] w fun e w' => ∃ (A : Option Addr) (c : Nat) (ss : List Nat), ss.Perm L ∧ e = .returned (.slice A ss.length c) ∧ Ow 23 1 w.heap.size w' A ss.length c (wds ss) ∧ Below w.heap.size w w' := by
  have C := Lib.hid (appendSeq_any Bm L w hK hlen)
  clear hK hlen
  go_enter Tryd.func29, Tryd.ntmps29
  go_wp2_with (go_at_call 32; (with_reducible refine C.out.mono ?_); rintro e w1 ⟨A1, c1, ss, hp, rfl, ho, hb⟩; have HP := Lib.hid hp; have HO := Lib.hid ho; have HB := Lib.hid hb; clear hp ho hb)
  go_ret
  exact ⟨A1, c1, ss, HP.out, rfl, HO.out, HB.out⟩
end Go.Proofs.YtdolceefbikppaaDoor
