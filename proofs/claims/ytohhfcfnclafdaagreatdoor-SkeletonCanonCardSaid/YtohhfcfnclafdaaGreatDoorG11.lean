/-
  The program's Right and Text.
  Regions that draw their order and only read, whose calls may lay blocks; the chapter's example.
  The document's find: where a word stands.
-/
import Derived.Test.YtohhfcfnclafdaaGreatDoorG09
import Derived.Test.YtohhfcfnclafdaaGreatDoorG10
import Derived.OpenShut
import Derived.Test.YtohhfcfnclafdaaGreatDoorG04
set_option linter.unusedVariables false
set_option linter.unusedSimpArgs false
namespace Go.Proofs.YtohhfcfnclafdaaGreatDoor
open Go.RowKit
attribute [local go_sem ↓] Go.wp_at_zero Go.wp_at_succ ld_a ld_n st_a st_n eq_a eq_n ne_a ne_n lv_a lv_n lp_3 lp_4
attribute [local go_sem] run_ld_a run_ld_n run_sw_a run_sw_n run_eq_a run_eq_n run_ne_a run_ne_n run_lv_a run_lv_n st_z ne_z eq_z rd_new rd_old rd_drew rd_drewN rd_set tn_new tn_old tn_drew tn_drewN setRow_alloc run_lp_3 run_lp_4

theorem join_lt : ∀ L : List (List Nat), (∀ l ∈ L, ∀ b ∈ l, b < 256) → ∀ b ∈ D.join L, b < 256
  | [], _, b, hb => by cases hb
  | [x], h, b, hb => h x (by simp) b hb
  | x :: y :: r, h, b, hb => by
    rw [D.join] at hb
    rcases List.mem_append.1 hb with hb | hb
    · exact h x (by simp) b hb
    · rcases List.mem_cons.1 hb with rfl | hb
      · decide
      · exact join_lt (y :: r) (fun l hl => h l (List.mem_cons_of_mem _ hl)) b hb
theorem mem_opt {l a : List Nat} (h : l ∈ (if a = [] then [] else [a])) : l = a := by
  by_cases e : a = []
  · rw [if_pos e] at h; cases h
  · rw [if_neg e] at h; simpa using h
theorem spell_lt (x : D.Tg) : ∀ b ∈ D.spell x, b < 256 := by
  intro b hb
  unfold D.spell at hb
  split at hb
  · revert b; decide
  · refine join_lt _ (fun l hl => ?_) b hb
    have : l = D.hd0 (D.pl x) ∨ l = D.hd0 (D.ps x) ∨ l = D.hd0 (D.pr x) := by
      simp only [D.some3, D.hds, List.mem_append] at hl
      rcases hl with hl | hl | hl
      · exact .inl (mem_opt hl)
      · exact .inr (.inl (mem_opt hl))
      · exact .inr (.inr (mem_opt hl))
    rcases this with rfl | rfl | rfl
    · exact hd0_lt fun b hb => x.lt b (List.mem_of_mem_take hb)
    · exact hd0_lt fun b hb => x.lt b (List.mem_of_mem_drop (List.mem_of_mem_take hb))
    · exact hd0_lt fun b hb => x.lt b (List.mem_of_mem_drop hb)
theorem spell_len2 (x : D.Tg) : (D.spell x).length ≤ 20 := by
  unfold D.spell
  split
  · decide
  · rw [← accs_end]; exact spell_len x
theorem right_eq (x : D.Tg) : D.right x = match D.parse (D.spell x) with
    | none => false
    | some p => sm (D.tb p) x := by
  unfold D.right D.pt sm
  cases D.parse (D.spell x) with
  | none => rfl
  | some p => by_cases h : D.tb p = x <;> simp [h]
theorem parse_spell (x : D.Tg) (w : World) : Calls Tryz.prog 23 #[.string (D.sb (D.spell x))] w fun e w' => e = .returned (.tuple #[.agg (nc (D.tb ((D.parse (D.spell x)).getD D.rt))), .int .i64 (er (D.parse (D.spell x)))]) ∧ Below w.heap.size w w' := by
  have := tag_parse (D.sb (D.spell x)) w (by rw [D.sb_len]; have := spell_len2 x; omega)
  rwa [D.ns_sb (spell_lt x)] at this
set_option maxRecDepth 100000 in
set_option maxHeartbeats 1000000 in
theorem right_any (x : D.Tg) (w : World) : Calls Tryz.prog 166 #[.agg (nc x)] w fun e w' => e = .returned (.bool (D.right x)) ∧ Below w.heap.size w w' := by
  have cS := Lib.hid (fun w => spelled_any x w)
  have cP := fun w => parse_spell x w
  have hr := right_eq x
  have f0 := rd_new w _ 55 x rfl
  obtain ⟨p, hp⟩ : ∃ p, D.parse (D.spell x) = p := ⟨_, rfl⟩
  obtain ⟨l, hl⟩ : ∃ l, D.spell x = l := ⟨_, rfl⟩
  rw [hp] at cP hr
  rw [hl] at cP cS
  clear hp hl
  have HR := Lib.hid hr
  clear hr
  cases p with
  | none =>
    have cP' := Lib.hid (fun w => (show Calls Tryz.prog 23 #[.string (D.sb l)] w fun e w' => e = .returned (.tuple #[.agg (nc D.zero), .int .i64 14]) ∧ Below w.heap.size w w' from cP w))
    clear cP
    go_enter Tryz.func166, Tryz.ntmps166
    go_wp2_with (first
      | (go_at_call 208; (with_reducible refine (cS.out _).mono ?_); rintro e w1 ⟨rfl, b1⟩)
      | (go_at_call 23; (with_reducible refine (cP'.out _).mono ?_); rintro e w2 ⟨rfl, b2⟩))
    go_ret
    exact ⟨by rw [HR.out]; rfl, below_on (below_on (below_alloc_ _ _) (by simp) b1) (by have := b1.size; simp at this; omega) b2 |>.alloc (by have := b1.size; have := b2.size; simp at *; omega) _⟩
  | some q =>
    have cP' := Lib.hid (fun w => (show Calls Tryz.prog 23 #[.string (D.sb l)] w fun e w' => e = .returned (.tuple #[.agg (nc (D.tb q)), .int .i64 0]) ∧ Below w.heap.size w w' from cP w))
    clear cP
    go_enter Tryz.func166, Tryz.ntmps166
    go_wp2_with (first
      | (go_at_call 208; (with_reducible refine (cS.out _).mono ?_); rintro e w1 ⟨rfl, b1⟩; have f1 := rd_on f0 b1)
      | (go_at_call 23; (with_reducible refine (cP'.out _).mono ?_); rintro e w2 ⟨rfl, b2⟩; have f2 := rd_on f1 b2; have s2 : w.heap.size < w2.heap.size := by have := b1.size; have := b2.size; simp at *; omega))
    go_ret
    exact ⟨by rw [HR.out]; rfl, below_on (below_on (below_alloc_ _ _) (by simp) b1) (by have := b1.size; simp at this; omega) b2 |>.alloc (by have := b1.size; have := b2.size; simp at *; omega) _⟩
/-- What Text tells. -/
def D.tx (x : D.Tg) : List Nat := if D.right x then D.spell x else []
theorem D.tx_tb {p : D.Pt} (h : D.Can p) : D.tx (D.tb p) = D.txt p := by
  unfold D.tx D.right
  rw [D.pt_tb h, D.spell_tb h]
  rfl
set_option maxRecDepth 100000 in
set_option maxHeartbeats 1000000 in
theorem text_any (x : D.Tg) (w : World) : Calls Tryz.prog 167 #[.agg (nc x)] w fun e w' => e = .returned (.string (D.sb (D.tx x))) ∧ Below w.heap.size w w' := by
  have cS := Lib.hid (fun w => spelled_any x w)
  have cR := Lib.hid (fun w => right_any x w)
  have ht : D.tx x = if D.right x then D.spell x else [] := rfl
  have f0 := rd_new w _ 55 x rfl
  obtain ⟨r, hr⟩ : ∃ r, D.right x = r := ⟨_, rfl⟩
  obtain ⟨l, hl⟩ : ∃ l, D.spell x = l := ⟨_, rfl⟩
  rw [hr] at cR ht
  rw [hl] at cS ht
  rw [ht]
  clear ht hr hl
  cases r
  all_goals
    go_enter Tryz.func167, Tryz.ntmps167
    go_wp2_with (first
      | (go_at_call 166; (with_reducible refine (cR.out _).mono ?_); rintro e w1 ⟨rfl, b1⟩; have f1 := rd_on f0 b1)
      | (go_at_call 208; (with_reducible refine (cS.out _).mono ?_); rintro e w2 ⟨rfl, b2⟩))
    go_ret
  · exact ⟨rfl, below_on (below_alloc_ _ _) (by simp) b1⟩
  · exact ⟨rfl, below_on (below_on (below_alloc_ _ _) (by simp) b1) (by have := b1.size; simp at this; omega) b2⟩
end Go.Proofs.YtohhfcfnclafdaaGreatDoor
set_option linter.unusedVariables false
set_option linter.unusedSimpArgs false
namespace Go.Proofs.YtohhfcfnclafdaaGreatDoor
open Go.RowKit
attribute [local go_sem ↓] Go.wp_at_zero Go.wp_at_succ ld_a ld_n st_a st_n eq_a eq_n ne_a ne_n lv_a lv_n lp_3 lp_4
attribute [local go_sem] run_ld_a run_ld_n run_sw_a run_sw_n run_eq_a run_eq_n run_ne_a run_ne_n run_lv_a run_lv_n st_z ne_z eq_z rd_new rd_old rd_drew rd_drewN rd_set tn_new tn_old tn_drew tn_drewN setRow_alloc run_lp_3 run_lp_4


/-- How far on a world is: its draws, and its new blocks. -/
structure On where
  n : Nat
  os : Array Obj
  deriving Inhabited
def ext (w : World) (p : On) : World := { w with heap := w.heap ++ p.os, drawn := p.n }
theorem ext_heap (w : World) (p : On) {k : Nat} (h : k < w.heap.size) : (ext w p).heap[k]? = w.heap[k]? := by simp [ext, Array.getElem?_append, h]
theorem ext_size (w : World) (p : On) : w.heap.size ≤ (ext w p).heap.size := by simp [ext]
theorem ext_below (w : World) (p : On) : Below w.heap.size w (ext w p) := ⟨rfl, rfl, rfl, ext_size w p, fun k hk => ext_heap w p hk⟩
theorem ext_of {w w' : World} (h : Below w.heap.size w w') : ∃ p, w' = ext w p := by
  obtain ⟨heap, tape, drawn, os, output⟩ := w
  obtain ⟨heap', tape', drawn', os', output'⟩ := w'
  obtain ⟨h1, h2, h3, h4, h5⟩ := h
  simp only at h1 h2 h3 h4 h5
  subst h1 h2 h3
  refine ⟨⟨drawn', heap'.extract heap.size heap'.size⟩, ?_⟩
  simp only [ext]
  congr 1
  apply Array.ext_getElem?
  intro i
  rw [Array.getElem?_append]
  by_cases hi : i < heap.size
  · rw [if_pos hi]; exact h5 i hi
  · rw [if_neg hi, Array.getElem?_extract]
    split
    · congr 1; omega
    · rw [Array.getElem?_eq_none (by omega)]
theorem ext_to {w w' : World} (h : ∃ p, w' = ext w p) : Below w.heap.size w w' := by
  obtain ⟨p, rfl⟩ := h
  exact ext_below w p
theorem wp_region_ext {P : Program} {id : Nat} {Q : Exit → Act → World → Prop} {a : Act} {w : World} {l : List Oper} (hm : P.follows .mixedOrders = true) (hB : Region.lexB .any l.toArray = true)
    (h : wpQuiet P l.toArray (fun w' => ∃ p : On, w' = ext w p) (fun a' => ∀ w', (∃ p : On, w' = ext w p) → Q .normal a' w') l a) : (Code.region id l.toArray true).wp P Q a w :=
  wp_region_quiet (C := fun w' => ∃ p : On, w' = ext w p) hm hB ⟨⟨w.drawn + 1, #[]⟩, by simp [ext]⟩ (by simpa using h)
theorem calls_ext {P : Program} {f : FuncId} {args : Array Value} {w : World} {p : On} {v : Value}
    (h : Calls P f args (ext w p) fun e w' => e = .returned v ∧ Below (ext w p).heap.size (ext w p) w') : Calls P f args (ext w p) fun e w'' => e = .returned v ∧ ∃ p : On, w'' = ext w p :=
  h.mono fun _ _ ⟨he, hb⟩ => ⟨he, ext_of ((ext_below w p).trans (hb.mono (ext_size w p)))⟩
theorem rd_ext (w : World) (p : On) (a : Addr) (h : a.block < w.heap.size) : rd (ext w p) a = rd w a := rd_to (ext_heap w p h)
theorem cell_ext (w : World) (p : On) (a : Addr) (h : a.block < w.heap.size) : (ext w p).cell? a = w.cell? a := World.cell?_of_block (ext_heap w p h)
/-- Of what was there at the beginning nothing has turned. -/
structure From (w0 w : World) : Prop where
  below : Below w0.heap.size w0 w
theorem From.alloc {w0 w : World} (h : From w0 w) (o : Obj) : From w0 (w.alloc o) := ⟨h.below.alloc h.below.size o⟩
theorem From.drewN {w0 w : World} (h : From w0 w) (n : Nat) : From w0 (w.drewN n) := ⟨below_drewN h.below n⟩
theorem From.on {w0 w w' : World} (h : From w0 w) (hb : Below w.heap.size w w') : From w0 w' := ⟨h.below.trans (hb.mono h.below.size)⟩
theorem From.rd {w0 w : World} {a : Addr} {x : D.Tg} (h : From w0 w) (hr : rd w0 a = some x) : rd w a = some x := rd_on hr h.below
theorem From.lt {w0 w : World} (h : From w0 w) {n : Nat} (hn : n < w0.heap.size) : n < w.heap.size := Nat.lt_of_lt_of_le hn h.below.size


end Go.Proofs.YtohhfcfnclafdaaGreatDoor
set_option linter.unusedVariables false
set_option linter.unusedSimpArgs false
set_option maxRecDepth 100000
namespace Go.Proofs.YtohhfcfnclafdaaGreatDoor
open Go.RowKit
attribute [local go_sem ↓] Go.wp_at_zero Go.wp_at_succ

/-- Texts' values. -/
def strs (l : List (List Nat)) : List Value := l.map fun t => .string (D.sb t)
theorem strs_app (l k : List (List Nat)) : strs (l ++ k) = strs l ++ strs k := by simp [strs]
theorem txt_eq (a b : ByteArray) : (a.toList == b.toList) = decide (D.ns a = D.ns b) := by
  rw [ByteArray.toList_eq, ByteArray.toList_eq, Bool.eq_iff_iff, beq_iff_eq, decide_eq_true_eq]
  constructor
  · intro h; rw [D.ns, D.ns, h]
  · intro h
    have := D.ns_inj h
    rw [this]
/-- Bytes all. -/
def D.B8 (l : List (List Nat)) : Prop := ∀ w ∈ l, ∀ c ∈ w, c < 256
/-- Where a word stands; below 0: nowhere. -/
def D.fnd (l : List (List Nat)) (t : List Nat) : Int := if t ∈ l then (l.idxOf t : Nat) else -1
theorem D.fnd_some {l : List (List Nat)} {t : List Nat} {k : Nat} (h : l[k]? = some t) (hn : ∀ j, j < k → l[j]? ≠ some t) : D.fnd l t = k := by
  unfold D.fnd
  rw [if_pos (List.mem_of_getElem? h)]
  have hk := (List.getElem?_eq_some_iff.1 h).1
  have hi : l.idxOf t < l.length := List.idxOf_lt_length_iff.2 (List.mem_of_getElem? h)
  have hg : l[l.idxOf t]? = some t := by rw [List.getElem?_eq_getElem hi, List.getElem_idxOf]
  have h1 : ¬ l.idxOf t < k := fun hlt => hn _ hlt hg
  have h2 : ¬ k < l.idxOf t := fun hlt => by
    have := List.not_of_lt_findIdx (p := (· == t)) (show k < l.findIdx (· == t) from hlt)
    rw [(List.getElem?_eq_some_iff.1 h).2] at this
    simp at this
  omega
theorem D.fnd_none {l : List (List Nat)} {t : List Nat} (hn : ∀ j, j < l.length → l[j]? ≠ some t) : D.fnd l t = -1 := by
  unfold D.fnd
  rw [if_neg]
  intro h
  obtain ⟨j, hj, e⟩ := List.mem_iff_getElem.1 h
  exact hn j hj (by rw [List.getElem?_eq_getElem hj, e])
end Go.Proofs.YtohhfcfnclafdaaGreatDoor
