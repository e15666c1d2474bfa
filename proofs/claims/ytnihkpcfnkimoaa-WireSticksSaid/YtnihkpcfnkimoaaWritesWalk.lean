/-
  The law of what is written: its walk.
-/
import Derived.Test.YtnihkpcfnkimoaaNilWalk
import Derived.Lib.Builder
set_option linter.unusedVariables false
set_option linter.unusedSimpArgs false
namespace Go.Proofs.Ytnihkpcfnkimoaa
open Go.RowKit
attribute [local go_sem ↓] Go.wp_at_zero Go.wp_at_succ

theorem From.frow {w0 w : World} {A : Option Addr} {n : Nat} {l : List D.Fd} (hf : From w0 w) (h : FRow w0 A n l) : FRow w A n l := h.on hf.below
theorem From.row {w0 w : World} {A : Option Addr} {n : Nat} {xs : List Value} (hf : From w0 w) (h : Row w0 A n xs) : Row w A n xs := h.on hf.below
theorem right20 (A : Option Addr) (n c : Nat) (l : List D.Fd) (w : World) (ha : FRow w A n l) (hl : Kept (∀ f ∈ l, Raw f)) (hn : n ≤ 9223372036854775807) :
    Calls Try.prog 9 #[.slice A n c, .int .i64 20] w (Righted 20 w) := right_any A n c 20 l w ha hl (by omega) hn
theorem right10 (A : Option Addr) (n c : Nat) (l : List D.Fd) (w : World) (ha : FRow w A n l) (hl : Kept (∀ f ∈ l, Raw f)) (hn : n ≤ 9223372036854775807) :
    Calls Try.prog 9 #[.slice A n c, .int .i64 10] w (Righted 10 w) := right_any A n c 10 l w ha hl (by omega) hn
theorem same_ptr (p : Nat) : ∀ W : World, (binOp .neq 24 (.pointer (some ⟨p, 0, none⟩)) (.pointer (some ⟨p, 0, none⟩))).run Try.prog W = .ok (.bool false) W := fun W => by
  cases hi : Try.prog.info? 63 with
  | none => exact absurd hi (by simp [show (Try.prog.info? 63).isSome = true by kernel_rfl, ← Option.not_isSome_iff_eq_none])
  | some j => exact Lib.run_neq_ptr_same W _ Try.underlying24 hi
theorem put_len {m : Nat} {l : List D.Fd} (h : ∀ f ∈ l, f.ok) (hl : l.length ≤ 20) (k : Nat) : (D.writes m ⟨[], 0⟩ (l.take k)).out.length ≤ 5000 := by
  have := D.writes_out (room := m) (l.take k) ⟨[], 0⟩ fun f hf => h f (List.mem_of_mem_take hf)
  simp at this
  have h2 : min k l.length ≤ 20 := by omega
  omega
theorem put_err {m : Nat} {l : List D.Fd} : (D.writes m ⟨[], 0⟩ l).err ≤ 2 := by
  rcases D.writes_err (room := m) l ⟨[], 0⟩ rfl with h | h <;> omega
theorem outs_len {s : D.St} (h : s.out.length ≤ 5000) : (outs s).length ≤ 5000 := by
  unfold outs
  split
  · exact h
  · simp

theorem told_len {w : World} {B : Option Addr} {m : Nat} {s : D.St} (h : Row w B m (bys (outs s))) (hs : (outs s).length ≤ 5000) : m ≤ 1000000 := by
  have := h.len
  rw [bys_len] at this
  omega
set_option maxRecDepth 20000 in
set_option maxHeartbeats 1000000 in
theorem writes_law (r : Int) (A : Option Addr) (n c : Nat) (l : List D.Fd) (w : World) (h1 : -9223372036854775808 ≤ r) (h2 : r ≤ 9223372036854775807) (ha : FRow w A n l) (hl : Kept (∀ f ∈ l, Raw f)) (hn : n ≤ 9223372036854775807) :
    Calls Try.prog 3 #[.int .i64 r, .slice A n c] w fun e w' => e = .returned (.bool true) ∧ Below w.heap.size w w' := by
  have z0 := from_self w
  have cR := Lib.hid (right20 A n c l w ha hl hn)
  have cN := Lib.hid (fun W => new_writer r W h1 h2)
  have hptr := same_ptr
  go_enter Try.func3, Try.ntmps3
  go_wp2_with (first
    | (go_at_call 9; (with_reducible refine cR.out.mono ?_); rintro e w1 ⟨A1, n1, c1, l1, rfl, r1, ok1, hn1, _, _, hb1⟩; have z1 := z0.on hb1)
    | (go_at_call 10; (with_reducible refine (cN.out _).mono ?_); rintro e w2 ⟨rfl, hW, hb2⟩))
  have hm63 : r.toNat ≤ 9223372036854775807 := by omega
  obtain ⟨m, hm⟩ : ∃ m, r.toNat = m := ⟨_, rfl⟩
  rw [hm] at hW hm63
  have HM := Lib.hid hm
  have OK := Lib.hid ok1
  have HL := Lib.hid r1.len
  clear hm cR cN ok1
  go_loopw [6] (fun i wr => ∃ (k n' c' : Nat) (A' : Option Addr), k ≤ n1 ∧ i = .int .i64 k ∧ Wr w1.heap.size wr w1.heap.size A' n' c' (D.writes m ⟨[], 0⟩ (l1.take k)) m ∧ From w1 wr) (fun i _ => n1 - (intOf i).toNat)
  case atStart => exact ⟨0, 0, 0, none, Nat.zero_le _, rfl, hW, ⟨hb2⟩⟩
  case round =>
    obtain ⟨k, n', c', A', hk, rfl, hw, hz⟩ := hrel
    have hlen := hw.len
    have hpl := put_len (m := m) OK.out (by rw [HL.out]; exact hn1) k
    have hn5 : n' ≤ 5000 := by omega
    clear hlen hpl
    by_cases hlt : k < n1
    · obtain ⟨f, hf, hfm⟩ := fat_lt (l := l1) (i := k) (by rw [HL.out]; exact hlt)
      have hfo := OK.out f hfm
      obtain ⟨ad, rfl, q0, q1, q2⟩ := (hz.frow r1).at_ hf
      have cP := Lib.hid (law_put w1.heap.size w1.heap.size m n' c' A' _ wr f hfo hw (by omega) hm63)
      rw [← D.writes_next hf] at cP
      clear hf hfm
      go_wp2_with (go_at_call 11; (with_reducible refine cP.out.mono ?_); rintro e w3 ⟨rfl, A3, n3, c3, h3, o3, x3⟩)
      go_roundw
      case rel => exact ⟨k + 1, n3, c3, A3, by omega, by go_num, h3, ⟨hw.below o3 hz.below⟩⟩
      case measure => simp [intOf]; omega
    · obtain rfl : k = n1 := by omega
      rw [List.take_of_length_le (by rw [HL.out]; exact Nat.le_refl _)] at hw
      have hpl := put_len (m := m) OK.out (by rw [HL.out]; exact hn1) k
      rw [List.take_of_length_le (by rw [HL.out]; exact Nat.le_refl _)] at hpl
      obtain ⟨s, hs⟩ : ∃ s, D.writes m ⟨[], 0⟩ l1 = s := ⟨_, rfl⟩
      have he := put_err (m := m) (l := l1)
      have cW := Lib.hid (fun W h => ref_write A1 k c1 l1 W r h ⟨OK.out⟩ hn1 h1 h2)
      rw [HM.out] at cW
      rw [hs] at hw hpl he cW
      have hol := outs_len hpl
      have cB := Lib.hid (w_bytes w1.heap.size w1.heap.size m n' c' A' s wr hw (by omega) (by omega))
      have cS := Lib.hid (fun B1 m1 d1 B2 m2 d2 W ha hb hm1 hm2 => same_any B1 B2 m1 d1 m2 d2 (outs s) (outs s) true W ha hb hm1 hm2 ⟨D.same_self _⟩)
      have HZ := Lib.hid hol
      clear hs hpl hol hw
      go_wp2_with (first
        | (go_at_call 12; (with_reducible refine cB.out.mono ?_); rintro e w3 ⟨B1, m1, d1, rfl, rB1, _, _, hb3⟩; have z3 := hz.on hb3; have lm1 := told_len rB1 HZ.out)
        | (go_at_call 13; (with_reducible refine (cW.out _ (z3.frow r1)).mono ?_); rintro e w4 ⟨B2, m2, d2, rfl, rB2, _, _, hb4⟩; have z4 := z3.on hb4; have lm2 := told_len rB2 HZ.out)
        | (go_at_call 14; (with_reducible refine (known_any _).mono ?_); rintro e w5 ⟨rfl, hb5⟩; have z5 := z4.on hb5)
        | (go_at_call 15; (with_reducible refine (cS.out _ _ _ _ _ _ _ ((rB1.on hb4).on hb5) (rB2.on hb5) lm1 lm2).mono ?_); rintro e w6 ⟨rfl, q6, rfl⟩))
      go_ret
      exact ⟨rfl, (z1.on (z5.drewN q6).below).below⟩
theorem writes_all (r : Int) (A : Option Addr) (n c : Nat) (l : List D.Fd) (w : World) (hr : (Lit.int .i64 r).wf = true) (ha : FRow w A n l) (hl : ∀ f ∈ l, Raw f) (hn : n ≤ maxLen) :
    Calls Try.prog 3 #[.int .i64 r, .slice A n c] w fun e w' => e = .returned (.bool true) ∧ Below w.heap.size w w' :=
  writes_law r A n c l w (bounds_i64 hr).1 (bounds_i64 hr).2 ha ⟨hl⟩ hn
end Go.Proofs.Ytnihkpcfnkimoaa
