/-
  The writer's calls.
-/
import Derived.Test.YtelifoagnheioaaPutW
set_option linter.unusedVariables false
set_option maxRecDepth 100000
set_option linter.unusedSimpArgs false
namespace Go.Proofs.Ytelifoagnheioaa
open Go.RowKit
attribute [local go_sem ↓] Go.wp_at_zero Go.wp_at_succ

theorem new_writer (r : Int) (w : World) (h1 : -9223372036854775808 ≤ r) (h2 : r ≤ 9223372036854775807) :
    Calls Try.prog 24 #[.int .i64 r] w fun e w' => e = .returned (.pointer (some ⟨w.heap.size, 0, none⟩)) ∧ Wr w.heap.size w' w.heap.size none 0 0 ⟨[], 0⟩ r.toNat ∧ Below w.heap.size w w' := by
  obtain ⟨m, hm⟩ : ∃ m : Nat, r.toNat = m := ⟨_, rfl⟩
  have hmx : ∀ ts t W, (Builtin.max_ ts t #[.int .i64 r, .int .i64 0]).run Try.prog W = .ok (.int .i64 (m : Int)) W := by
    intro ts t W
    rw [run_max_int2]
    congr 2
    split <;> omega
  rw [hm]
  have HW : Wr w.heap.size (w.alloc (.cells #[.slice none 0 0, .int .i64 0, .int .i64 m] 92)) w.heap.size none 0 0 ⟨[], 0⟩ m := ⟨Blk.new _ _ _, Own.nil (by simp), Nat.le_refl _⟩
  clear hm
  go_enter Try.func24, Try.ntmps24
  go_wp2
  go_ret
  exact ⟨rfl, HW, (Below.refl _ _).alloc (Nat.le_refl _) _⟩

theorem Wrote.back {base p room : Nat} {A : Option Addr} {s : D.St} {w w1 : World} {e : Ending} {w' : World} (h : Wrote base p room A s w1 e w') (hb : Below w.heap.size w w1) : Wrote base p room A s w e w' := by
  obtain ⟨he, A', n', c', h1, h2, h3⟩ := h
  exact ⟨he, A', n', c', h1, h2.off hb, fun i hi => (h3 i hi).imp id fun h => Nat.le_trans hb.size h⟩
theorem below_alloc (w : World) (o : Obj) : Below w.heap.size w (w.alloc o) := (Below.refl _ _).alloc (Nat.le_refl _) o
theorem new_cell (w : World) (v : Value) (t : TypeId) : (w.alloc (.cells #[v] t)).cell? ⟨w.heap.size, 0, none⟩ = some v := ((Blk.new w t #[v]).c 0).trans rfl
section
variable (base p room n c : Nat) (A : Option Addr) (s : D.St) (w : World)
theorem w_number (x : Nat) (hx : x < 18446744073709551616) (h : Wr base w p A n c s room) (hn : n ≤ 500000) (hroom : room ≤ 9223372036854775807) :
    Calls Try.prog 42 #[.pointer (some ⟨p, 0, none⟩), .int .u64 x] w (Wrote base p room A (D.wput room s (D.sm x) 0) w) := by
  have h1 := h.on (below_alloc w (.cells #[.int .u64 x] 26))
  have hl := D.sm_len10 hx
  have cP := Lib.hid (put_Number #[.pointer (some ⟨w.heap.size, 0, none⟩)] base p room n c A s (D.sm x) _ h1 hn (by omega) hroom (fun _ => number_cl x w.heap.size _ hx (new_cell w _ _)))
  clear hl
  go_enter Try.func42, Try.ntmps42
  go_wp2_with (go_at_call 46; (with_reducible refine cP.out.mono ?_); rintro e w1 HW; have HE := HW.1; subst HE)
  go_ret
  exact HW.back (below_alloc _ _)
theorem w_text (x : ByteArray) (hx : x.size ≤ 500) (h : Wr base w p A n c s room) (hn : n ≤ 500000) (hroom : room ≤ 9223372036854775807) :
    Calls Try.prog 45 #[.pointer (some ⟨p, 0, none⟩), .string x] w (Wrote base p room A (D.wput room s (D.sm x.size ++ D.ns x) 0) w) := by
  have h1 := h.on (below_alloc w (.cells #[.string x] 9))
  have hl : (D.sm x.size ++ D.ns x).length ≤ 1000 := by rw [List.length_append, D.ns_len]; have := D.sm_len10 (n := x.size) (by omega); omega
  have cP := Lib.hid (put_Text #[.pointer (some ⟨w.heap.size, 0, none⟩)] base p room n c A s (D.sm x.size ++ D.ns x) _ h1 hn (by omega) hroom (fun _ => text_cl x w.heap.size _ (by omega) (new_cell w _ _)))
  clear hl
  go_enter Try.func45, Try.ntmps45
  go_wp2_with (go_at_call 46; (with_reducible refine cP.out.mono ?_); rintro e w1 HW; have HE := HW.1; subst HE)
  go_ret
  exact HW.back (below_alloc _ _)
set_option maxHeartbeats 400000 in
theorem w_byte (x d : Nat) (B : Option Addr) (hx : x < 256) (h : Wr base w p A n c s room) (hr : Row w B 1 (bys [x])) (hn : n ≤ 500000) (hroom : room ≤ 9223372036854775807) :
    Calls Try.prog 26 #[.pointer (some ⟨p, 0, none⟩), .slice B 1 d] w (Wrote base p room A (D.wput room s [x] 0) w) := by
  obtain ⟨ad, rfl, cx⟩ := hr.cell (k := 0) (bys_at (b := x) rfl)
  rw [add_zero_] at cx
  have h1 := h.on (below_alloc w (.cells #[.int .u8 x] 5))
  have cP := Lib.hid (put_Byte #[.pointer (some ⟨w.heap.size, 0, none⟩)] base p room n c A s [x] _ h1 hn (by simp) hroom (fun _ => byte_cl x w.heap.size _ (new_cell w _ _)))
  go_enter Try.func26, Try.ntmps26
  go_wp2_with fail
  go_loopw [9] (fun i wr => (i = .int .i64 0 ∧ wr = w) ∨ (i = .int .i64 1 ∧ Wrote base p room A (D.wput room s [x] 0) w (.returned (.pointer (some ⟨p, 0, none⟩))) wr)) (fun i _ => 1 - (intOf i).toNat)
  case atStart => exact .inl ⟨rfl, rfl⟩
  case round =>
    rcases hrel with ⟨rfl, rfl⟩ | ⟨rfl, hW⟩
    · go_wp2_with (go_at_call 46; (with_reducible refine cP.out.mono ?_); rintro e w1 HW; have HE := HW.1; subst HE)
      go_roundw
      case rel => exact .inr ⟨rfl, HW.back (below_alloc _ _)⟩
      case measure => simp [intOf]
    · go_wp2
      go_ret
      exact hW

/-- What a writer tells: its bytes, or nothing beside an error. -/
def outs (s : D.St) : List Nat := if s.err = 0 then s.out else []
def Told (s : D.St) (w : World) (e : Ending) (w' : World) : Prop := ∃ B m d, e = .returned (.tuple #[.slice B m d, .int .i64 s.err]) ∧ Row w' B m (bys (outs s)) ∧ m ≤ d ∧ d ≤ maxLen ∧ Below w.heap.size w w'
set_option maxHeartbeats 400000 in
theorem w_bytes (h : Wr base w p A n c s room) (hn : n ≤ 500000) (hs : s.err ≤ 9) :
    Calls Try.prog 27 #[.pointer (some ⟨p, 0, none⟩)] w (Told s w) := by
  by_cases he : s.err = 0
  · have hc0 := h.c0
    have hc1 := h.ok1 he
    have cC := Lib.hid (clone_any A n c s.out w h.own.to_row (by omega))
    have HO : Kept (outs s = s.out) := ⟨by rw [outs, if_pos he]⟩
    have HE : Kept (s.err = 0) := ⟨he⟩
    clear he
    go_enter Try.func27, Try.ntmps27
    go_wp2_with (go_at_call 48; (with_reducible refine cC.out.mono ?_); rintro e w1 ⟨A1, c1, rfl, ho1, hb1⟩)
    go_ret2
    exact ⟨A1, s.out.length, c1, by rw [HE.out]; rfl, by rw [HO.out]; exact ho1.to_row, ho1.cap.1, ho1.cap.2, hb1⟩
  · have hc1 := h.c1
    have hb : ((s.err : Int) != 0) = true := by simp; exact he
    have HO : Kept (outs s = []) := ⟨by rw [outs, if_neg he]⟩
    clear he
    go_enter Try.func27, Try.ntmps27
    go_wp2_with fail
    go_quiet (fail)
    go_wp2
    go_ret2
    exact ⟨none, 0, 0, rfl, by rw [HO.out]; exact Row.nil _ _, Nat.le_refl _, Nat.zero_le _, below_drewN (Below.refl _ _) _⟩
end
end Go.Proofs.Ytelifoagnheioaa
