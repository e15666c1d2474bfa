/-
  The closures that hold a record's fields against their bounds, and take them away.
-/
import Derived.Test.YtcnbdfobhablbaaRsh
import Derived.StillTailTactics
set_option linter.unusedVariables false
set_option linter.unusedSimpArgs false
set_option maxRecDepth 100000
namespace Go.Proofs.Ytcnbdfobhablbaa
open Go.RowKit
attribute [local go_sem ↓] Go.wp_at_zero Go.wp_at_succ

theorem D.fst2_some {a b : Nat} (h : a ≠ 0) : D.fst2 a b = a := by unfold D.fst2; rw [if_neg h]
theorem D.fst2_none (b : Nat) : D.fst2 0 b = b := rfl
theorem D.fst2_r (a : Nat) : D.fst2 a 0 = a := by
  unfold D.fst2
  split
  · omega
  · rfl
/-- What weighing's variables are: the pointer to the error, the closure that holds. -/
structure Wg (w : World) (h hb g : Nat) : Prop where
  b1 : Blk w h 103 #[.pointer (some ⟨g, 0, none⟩)]
  b2 : Blk w hb 112 #[.func (.func 54) #[] #[.pointer (some ⟨h, 0, none⟩)]]
def EB (w : World) (g e : Nat) : Prop := Blk w g 46 #[.int .i64 (e : Nat)]
theorem EB.cell {w : World} {g e : Nat} (h : EB w g e) : w.cell? ⟨g, 0, none⟩ = some (.int .i64 (e : Nat)) := Blk.cell h
theorem EB.set {w : World} {g e : Nat} (h : EB w g e) (r : Nat) : EB (w.setCell ⟨g, 0, none⟩ (.int .i64 (r : Nat))) g r := Blk.set_ h _
/-- The blocks that weighing turns. -/
def Pg (p g : Nat) (i : Nat) : Prop := i = p ∨ i = g
theorem Wg.only {w w' : World} {h hb g p e : Nat} {x : D.Rc} (hw : Wg w h hb g) (he : EB w g e) (hp : RB w p x) (k : Only (Pg p g) w w') : Wg w' h hb g := by
  have n1 := hw.b1.ne_ he (by decide)
  have n2 := hw.b1.ne_ hp (by decide)
  have n3 := hw.b2.ne_ he (by decide)
  have n4 := hw.b2.ne_ hp (by decide)
  refine ⟨hw.b1.only k ?_, hw.b2.only k ?_⟩
  · rintro (h | h)
    · exact n2 h
    · exact n1 h
  · rintro (h | h)
    · exact n4 h
    · exact n3 h
theorem hold_yes (r h g : Nat) (w : World) :
    Calls Try.prog 54 #[.bool true, .int .i64 (r : Nat), .pointer (some ⟨h, 0, none⟩)] w fun en w' => en = .returned (.tuple #[]) ∧ w = w' := by
  go_enter Try.func54, Try.ntmps54
  go_wp2
  go_end0
  exact ⟨rfl, rfl⟩
theorem hold_no (r h g e : Nat) (w : World) (hc : w.cell? ⟨h, 0, none⟩ = some (.pointer (some ⟨g, 0, none⟩))) (he : EB w g e) :
    Calls Try.prog 54 #[.bool false, .int .i64 (r : Nat), .pointer (some ⟨h, 0, none⟩)] w fun en w' => en = .returned (.tuple #[]) ∧ EB w' g (D.fst2 e r) ∧ Only (fun i => i = g) w w' := by
  have h1 := he.cell
  have h2 := Blk.free he
  by_cases h0 : e = 0
  · subst h0
    have h1 : w.cell? ⟨g, 0, none⟩ = some (.int .i64 0) := h1
    have HS := Lib.hid (he.set r)
    rw [D.fst2_none]
    go_enter Try.func54, Try.ntmps54
    go_wp2
    go_end0
    exact ⟨rfl, HS.out, (Only.self (fun i => i = g) w).set (p := ⟨g, 0, none⟩) (.inl rfl) _⟩
  · rw [D.fst2_some h0]
    have hb : ((e : Int) == 0) = false := by simp; exact h0
    go_enter Try.func54, Try.ntmps54
    go_wp2
    go_end0
    exact ⟨rfl, he, Only.self _ _⟩
theorem hold_any (b : Bool) (r h g e e' : Nat) (w : World) (hc : w.cell? ⟨h, 0, none⟩ = some (.pointer (some ⟨g, 0, none⟩))) (he : EB w g e) (hq : Kept (D.fst2 e (if b then 0 else r) = e')) :
    Calls Try.prog 54 #[.bool b, .int .i64 (r : Nat), .pointer (some ⟨h, 0, none⟩)] w fun en w' => en = .returned (.tuple #[]) ∧ EB w' g e' ∧ Only (fun i => i = g) w w' := by
  obtain ⟨rfl⟩ := hq
  cases b
  · exact hold_no r h g e w hc he
  · rw [if_pos rfl, D.fst2_r]
    refine (hold_yes r h g w).mono ?_
    rintro en w' ⟨rfl, rfl⟩
    exact ⟨rfl, he, Only.self _ _⟩
theorem hold5 (b : Bool) (h g e e' : Nat) (w : World) (hc : w.cell? ⟨h, 0, none⟩ = some (.pointer (some ⟨g, 0, none⟩))) (he : EB w g e) (hq : Kept (D.fst2 e (if b then 0 else 5) = e')) :
    Calls Try.prog 54 #[.bool b, .int .i64 5, .pointer (some ⟨h, 0, none⟩)] w fun en w' => en = .returned (.tuple #[]) ∧ EB w' g e' ∧ Only (fun i => i = g) w w' := hold_any b 5 h g e e' w hc he hq
theorem hold2 (b : Bool) (h g e e' : Nat) (w : World) (hc : w.cell? ⟨h, 0, none⟩ = some (.pointer (some ⟨g, 0, none⟩))) (he : EB w g e) (hq : Kept (D.fst2 e (if b then 0 else 2) = e')) :
    Calls Try.prog 54 #[.bool b, .int .i64 2, .pointer (some ⟨h, 0, none⟩)] w fun en w' => en = .returned (.tuple #[]) ∧ EB w' g e' ∧ Only (fun i => i = g) w w' := hold_any b 2 h g e e' w hc he hq
/-- What a closure of weighing does with a field. -/
def Wd (p g e' : Nat) (y : D.Rc) (w : World) (en : Ending) (w' : World) : Prop := en = .returned (.tuple #[]) ∧ EB w' g e' ∧ RB w' p y ∧ Only (Pg p g) w w'
theorem wd_of {w w1 : World} {p g e e' i : Nat} {x y : D.Rc} {u : Value} (hp : RB w p x) (he : EB w g e) (h1 : EB w1 g e') (k1 : Only (fun i => i = g) w.drew w1) (hy : (rS.v x).setIfInBounds i u = rS.v y) :
    Wd p g e' y w (.returned (.tuple #[])) (w1.setCell ⟨p, i, none⟩ u) := by
  have n1 : p ≠ g := Blk.ne_ hp he (by decide)
  have hp1 : RB w1 p x := RB.only (S := fun i => i = g) (hp.on ((Below.refl _ _).drew)) k1 n1
  refine ⟨rfl, ?_, hp1.put i u hy, ?_⟩
  · exact ⟨(Below.heap_setCell w1 ⟨p, i, none⟩ u g (Ne.symm n1)).trans h1.out⟩
  · have k2 : Only (Pg p g) w w1 := (Only.off ((Below.refl _ _).drew) k1).more fun i h => .inr h
    exact k2.set (.inl (.inl rfl)) _
theorem inn_if (x lo hi : Nat) : D.inn x lo hi = if (decide (lo ≤ x) && decide (x ≤ hi)) then 0 else 5 := by
  unfold D.inn
  by_cases h1 : lo ≤ x <;> by_cases h2 : x ≤ hi <;> simp [h1, h2]
set_option maxHeartbeats 1000000 in
theorem weigh_small (p g h hb e i v lo hi : Nat) (x y : D.Rc) (w : World) (hw : Wg w h hb g) (hp : RB w p x) (he : EB w g e) (hc : w.cell? ⟨p, i, none⟩ = some (.int .u8 (v : Nat))) (hy : Kept ((rS.v x).setIfInBounds i (.int .u8 0) = rS.v y)) :
    Calls Try.prog 55 #[.pointer (some ⟨p, i, none⟩), .int .u8 (lo : Nat), .int .u8 (hi : Nat), .pointer (some ⟨hb, 0, none⟩)] w (Wd p g (D.fst2 e (D.inn v lo hi)) y w) := by
  have c1 := hw.b2.cell
  have hlt := hp.out
  have f1 := Blk.f hp i
  have n1 : p ≠ g := Blk.ne_ hp he (by decide)
  have HQ := Kept.mk (rfl : D.fst2 e (D.inn v lo hi) = D.fst2 e (D.inn v lo hi))
  rw [inn_if] at HQ ⊢
  have HP := Lib.hid hp
  have HE := Lib.hid he
  have fin : ∀ w1 e', EB w1 g e' → Only (fun i => i = g) w.drew w1 → Hid (w1.cell? ⟨p, i, none⟩ = some (.int .u8 (v : Nat)) ∧ w1.frozen? ⟨p, i, none⟩ = false) := fun w1 e' h1 k1 => by
    have hp1 : RB w1 p x := RB.only (S := fun i => i = g) (hp.on ((Below.refl _ _).drew)) k1 n1
    refine Lib.hid ⟨?_, Blk.f hp1 i⟩
    rw [← hc, Blk.c hp i, Blk.c hp1 i]
  by_cases h1 : lo ≤ v
  · by_cases h2 : v ≤ hi
    · have hb1 : (decide (lo ≤ v) && decide (v ≤ hi)) = true := by simp [h1, h2]
      rw [hb1] at HQ ⊢
      have CH := Lib.hid (hold5 true h g e _ w.drew hw.b1.drew.cell (show EB w.drew g e from Blk.drew he) HQ)
      clear HQ hb1 hlt
      go_enter Try.func55, Try.ntmps55
      go_wp2_with fail
      go_still_tail 13, (by kernel_rfl)
      change wpList _ _ _ _ _ w.drew
      go_wp2_with (go_at_call 54; (with_reducible refine CH.out.mono ?_); rintro en w1 ⟨rfl, he1, k1⟩; have HF := fin _ _ he1 k1; obtain ⟨cc, ff⟩ := HF.out)
      go_end0
      exact wd_of HP.out HE.out he1 k1 hy.out
    · have hb1 : (decide (lo ≤ v) && decide (v ≤ hi)) = false := by simp [h2]
      rw [hb1] at HQ ⊢
      have CH := Lib.hid (hold5 false h g e _ w.drew hw.b1.drew.cell (show EB w.drew g e from Blk.drew he) HQ)
      clear HQ hb1 hlt
      go_enter Try.func55, Try.ntmps55
      go_wp2_with fail
      go_still_tail 13, (by kernel_rfl)
      change wpList _ _ _ _ _ w.drew
      go_wp2_with (go_at_call 54; (with_reducible refine CH.out.mono ?_); rintro en w1 ⟨rfl, he1, k1⟩; have HF := fin _ _ he1 k1; obtain ⟨cc, ff⟩ := HF.out)
      go_end0
      exact wd_of HP.out HE.out he1 k1 hy.out
  · have hb1 : (decide (lo ≤ v) && decide (v ≤ hi)) = false := by simp [h1]
    rw [hb1] at HQ ⊢
    have CH := Lib.hid (hold5 false h g e _ w.drew hw.b1.drew.cell (show EB w.drew g e from Blk.drew he) HQ)
    clear HQ hb1 hlt
    go_enter Try.func55, Try.ntmps55
    go_wp2_with fail
    go_still_tail 13, (by kernel_rfl)
    change wpList _ _ _ _ _ w.drew
    go_wp2_with (go_at_call 54; (with_reducible refine CH.out.mono ?_); rintro en w1 ⟨rfl, he1, k1⟩; have HF := fin _ _ he1 k1; obtain ⟨cc, ff⟩ := HF.out)
    go_end0
    exact wd_of HP.out HE.out he1 k1 hy.out
theorem Wd.self {w : World} {p g e i : Nat} {x y : D.Rc} {u : Value} (hp : RB w p x) (he : EB w g e) (hy : (rS.v x).setIfInBounds i u = rS.v y) : Wd p g e y w (.returned (.tuple #[])) (w.setCell ⟨p, i, none⟩ u) := by
  have n1 : p ≠ g := Blk.ne_ hp he (by decide)
  exact ⟨rfl, ⟨(Below.heap_setCell w ⟨p, i, none⟩ u g (Ne.symm n1)).trans he.out⟩, hp.put i u hy, (Only.self _ _).set (.inl (.inl rfl)) _⟩
theorem weigh_gone (p g e : Nat) (b : Bool) (x y : D.Rc) (w : World) (hp : RB w p x) (he : EB w g e) (hc : w.cell? ⟨p, 5, none⟩ = some (.bool b)) (hy : Kept ((rS.v x).setIfInBounds 5 (.bool false) = rS.v y)) :
    Calls Try.prog 56 #[.pointer (some ⟨p, 5, none⟩)] w (Wd p g e y w) := by
  have f1 := Blk.f hp 5
  have HF := Lib.hid (Wd.self hp he hy.out)
  go_enter Try.func56, Try.ntmps56
  go_wp2
  go_end0
  exact HF.out
theorem weigh_time (p g e v : Nat) (x y : D.Rc) (w : World) (hp : RB w p x) (he : EB w g e) (hc : w.cell? ⟨p, 7, none⟩ = some (.int .u64 (v : Nat))) (hy : Kept ((rS.v x).setIfInBounds 7 (.int .u64 0) = rS.v y)) :
    Calls Try.prog 58 #[.pointer (some ⟨p, 7, none⟩)] w (Wd p g e y w) := by
  have f1 := Blk.f hp 7
  have HF := Lib.hid (Wd.self hp he hy.out)
  go_enter Try.func58, Try.ntmps58
  go_wp2
  go_end0
  exact HF.out
set_option maxHeartbeats 1000000 in
theorem weigh_rev (p g h hb e v : Nat) (x y : D.Rc) (w : World) (hv : v < 4294967296) (hw : Wg w h hb g) (hp : RB w p x) (he : EB w g e) (hc : w.cell? ⟨p, 6, none⟩ = some (.int .u32 (v : Nat))) (hy : Kept ((rS.v x).setIfInBounds 6 (.int .u32 0) = rS.v y)) :
    Calls Try.prog 57 #[.pointer (some ⟨p, 6, none⟩), .pointer (some ⟨hb, 0, none⟩)] w (Wd p g (D.fst2 e (D.inn v 1 4294967295)) y w) := by
  have c1 := hw.b2.cell
  have n1 : p ≠ g := Blk.ne_ hp he (by decide)
  have HQ := Kept.mk (rfl : D.fst2 e (D.inn v 1 4294967295) = D.fst2 e (D.inn v 1 4294967295))
  rw [inn_if] at HQ ⊢
  have HP := Lib.hid hp
  have HE := Lib.hid he
  have fin : ∀ w1 e', EB w1 g e' → Only (fun i => i = g) w.drew w1 → Hid (w1.cell? ⟨p, 6, none⟩ = some (.int .u32 (v : Nat)) ∧ w1.frozen? ⟨p, 6, none⟩ = false) := fun w1 e' h1 k1 => by
    have hp1 : RB w1 p x := RB.only (S := fun i => i = g) (hp.on ((Below.refl _ _).drew)) k1 n1
    refine Lib.hid ⟨?_, Blk.f hp1 6⟩
    rw [← hc, Blk.c hp 6, Blk.c hp1 6]
  by_cases h1 : 1 ≤ v
  · have hb1 : (decide (1 ≤ v) && decide (v ≤ 4294967295)) = true := by simp [h1]; omega
    rw [hb1] at HQ ⊢
    have i1 : (1 : Int) ≤ (v : Int) := by omega
    have CH := Lib.hid (hold5 true h g e _ w.drew hw.b1.drew.cell (show EB w.drew g e from Blk.drew he) HQ)
    clear HQ hb1
    go_enter Try.func57, Try.ntmps57
    go_wp2_with fail
    go_still_tail 5, (by kernel_rfl)
    change wpList _ _ _ _ _ w.drew
    go_wp2_with (go_at_call 54; (with_reducible refine CH.out.mono ?_); rintro en w1 ⟨rfl, he1, k1⟩; have HF := fin _ _ he1 k1; obtain ⟨cc, ff⟩ := HF.out)
    go_end0
    exact wd_of HP.out HE.out he1 k1 hy.out
  · obtain rfl : v = 0 := by omega
    have hb1 : (decide (1 ≤ 0) && decide (0 ≤ 4294967295)) = false := by decide
    rw [hb1] at HQ ⊢
    have hc : w.cell? ⟨p, 6, none⟩ = some (.int .u32 0) := hc
    have CH := Lib.hid (hold5 false h g e _ w.drew hw.b1.drew.cell (show EB w.drew g e from Blk.drew he) HQ)
    clear HQ hb1
    go_enter Try.func57, Try.ntmps57
    go_wp2_with fail
    go_still_tail 5, (by kernel_rfl)
    change wpList _ _ _ _ _ w.drew
    go_wp2_with (go_at_call 54; (with_reducible refine CH.out.mono ?_); rintro en w1 ⟨rfl, he1, k1⟩; have HF := fin _ _ he1 k1; obtain ⟨cc, ff⟩ := HF.out)
    go_end0
    exact wd_of HP.out HE.out he1 k1 hy.out
theorem lng_if (t : ByteArray) : D.lng t = if decide (t.size ≤ 60) then 0 else 2 := by
  unfold D.lng
  by_cases h : t.size ≤ 60 <;> simp [h]
set_option maxHeartbeats 1000000 in
theorem weigh_text (p g h hb e : Nat) (t : ByteArray) (x y : D.Rc) (w : World) (hw : Wg w h hb g) (hp : RB w p x) (he : EB w g e) (hc : w.cell? ⟨p, 8, none⟩ = some (.string t)) (hy : Kept ((rS.v x).setIfInBounds 8 (.string ⟨#[]⟩) = rS.v y)) :
    Calls Try.prog 59 #[.pointer (some ⟨p, 8, none⟩), .pointer (some ⟨hb, 0, none⟩)] w (Wd p g (D.fst2 e (D.lng t)) y w) := by
  have c1 := hw.b2.cell
  have n1 : p ≠ g := Blk.ne_ hp he (by decide)
  have HQ := Kept.mk (rfl : D.fst2 e (D.lng t) = D.fst2 e (D.lng t))
  rw [lng_if] at HQ ⊢
  have HP := Lib.hid hp
  have HE := Lib.hid he
  have fin : ∀ w1 e', EB w1 g e' → Only (fun i => i = g) w.drew w1 → Hid (w1.cell? ⟨p, 8, none⟩ = some (.string t) ∧ w1.frozen? ⟨p, 8, none⟩ = false) := fun w1 e' h1 k1 => by
    have hp1 : RB w1 p x := RB.only (S := fun i => i = g) (hp.on ((Below.refl _ _).drew)) k1 n1
    refine Lib.hid ⟨?_, Blk.f hp1 8⟩
    rw [← hc, Blk.c hp 8, Blk.c hp1 8]
  by_cases h1 : t.size ≤ 60
  · have hb1 : decide (t.size ≤ 60) = true := by simp [h1]
    rw [hb1] at HQ ⊢
    have i1 : (t.size : Int) ≤ 60 := by omega
    have CH := Lib.hid (hold2 true h g e _ w.drew hw.b1.drew.cell (show EB w.drew g e from Blk.drew he) HQ)
    clear HQ hb1
    go_enter Try.func59, Try.ntmps59
    go_wp2_with fail
    go_still_tail 6, (by kernel_rfl)
    change wpList _ _ _ _ _ w.drew
    go_wp2_with (go_at_call 54; (with_reducible refine CH.out.mono ?_); rintro en w1 ⟨rfl, he1, k1⟩; have HF := fin _ _ he1 k1; obtain ⟨cc, ff⟩ := HF.out)
    go_end0
    exact wd_of HP.out HE.out he1 k1 hy.out
  · have hb1 : decide (t.size ≤ 60) = false := by simp [h1]
    rw [hb1] at HQ ⊢
    have i1 : (60 : Int) < (t.size : Int) := by omega
    have i2 : decide ((t.size : Int) ≤ 60) = false := by simp; omega
    have CH := Lib.hid (hold2 false h g e _ w.drew hw.b1.drew.cell (show EB w.drew g e from Blk.drew he) HQ)
    clear HQ hb1
    go_enter Try.func59, Try.ntmps59
    go_wp2_with fail
    go_still_tail 6, (by kernel_rfl)
    change wpList _ _ _ _ _ w.drew
    go_wp2_with (go_at_call 54; (with_reducible refine CH.out.mono ?_); rintro en w1 ⟨rfl, he1, k1⟩; have HF := fin _ _ he1 k1; obtain ⟨cc, ff⟩ := HF.out)
    go_end0
    exact wd_of HP.out HE.out he1 k1 hy.out
end Go.Proofs.Ytcnbdfobhablbaa
