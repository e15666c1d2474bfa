/-
  The laws of fields: their walks.
-/
import Derived.Test.YtnholkkkdmbfnaaLaws
namespace Go.Proofs.Ytnholkkkdmbfnaa
open Go.RowKit

theorem back_walk (a0 : Int) (a1 : Int) (a2 : Int) (a3 : Int) (w0 : (Lit.int .u64 a0).wf = true) (w1 : (Lit.int .i64 a1).wf = true) (w2 : (Lit.int .i64 a2).wf = true) (w3 : (Lit.int .u64 a3).wf = true) (w : World) :
    Calls Try.prog 4 #[.int .u64 a0, .int .i64 a1, .int .i64 a2, .int .u64 a3] w fun e w' => e = .returned (.bool true) ∧ Below w.heap.size w w' := by
  obtain ⟨x, hx, rfl⟩ : ∃ x : Nat, x < 18446744073709551616 ∧ a0 = x := ⟨a0.toNat, by have := bounds_u64 w0; omega, by have := bounds_u64 w0; omega⟩
  obtain ⟨v, hv, rfl⟩ : ∃ x : Nat, x < 18446744073709551616 ∧ a3 = x := ⟨a3.toNat, by have := bounds_u64 w3; omega, by have := bounds_u64 w3; omega⟩
  have b1 := bounds_i64 w1
  have b2 := bounds_i64 w2
  obtain ⟨lo, hlo, e1⟩ : ∃ lo : Nat, lo ≤ 64 ∧ (IntKind.u64.wrap a1).tmod 65 = lo := by
    rw [IntKind.wrap_u64, Int.tmod_eq_emod_of_nonneg (by omega)]
    exact ⟨(a1 % 18446744073709551616 % 65).toNat, by omega, by omega⟩
  obtain ⟨n, hn, e2⟩ : ∃ n : Nat, lo + n ≤ 64 ∧ (IntKind.u64.wrap a2).tmod (65 - lo) = n := by
    rw [IntKind.wrap_u64, Int.tmod_eq_emod_of_nonneg (by omega)]
    have h1 := Int.emod_nonneg (a2 % 18446744073709551616) (b := 65 - (lo : Int)) (by omega)
    have h2 := Int.emod_lt_of_pos (a2 % 18446744073709551616) (b := 65 - (lo : Int)) (by omega)
    exact ⟨(a2 % 18446744073709551616 % (65 - (lo : Int))).toNat, by omega, by omega⟩
  obtain ⟨X, hX⟩ : ∃ X, M.put x lo n v = X := ⟨_, rfl⟩
  have hXl : X < 18446744073709551616 := by rw [← hX]; exact M.put_lt _ _ _ _
  obtain ⟨g1, h1⟩ : ∃ g, M.get v 0 n = g := ⟨_, rfl⟩
  obtain ⟨g2, h2⟩ : ∃ g, M.get x 0 lo = g := ⟨_, rfl⟩
  obtain ⟨g3, h3⟩ : ∃ g, M.get x ((lo : Int) + n) (64 - (lo : Int) - n) = g := ⟨_, rfl⟩
  obtain ⟨g4, h4⟩ : ∃ g, M.get x lo n = g := ⟨_, rfl⟩
  have k1 : M.get X lo n = g1 := by rw [← hX, M.get_put hn, h1]
  have k2 : M.get X 0 lo = g2 := by rw [← hX, M.get_put_low hn, h2]
  have k3 : M.get X ((lo : Int) + n) (64 - (lo : Int) - n) = g3 := by
    have := M.get_put_high (w := x) (v := v) hn
    rw [hX, show ((lo + n : Nat) : Int) = (lo : Int) + n by omega, show ((64 - lo - n : Nat) : Int) = 64 - (lo : Int) - n by omega] at this
    rw [this, h3]
  have k4 : M.put X lo n g4 = x := by rw [← hX, ← h4, M.put_back hx hn]
  have cP := Lib.hid (fun W => put_is x X lo n v W hx (by omega) (by omega) ⟨hX⟩)
  have cQ := Lib.hid (fun W => put_is X x lo n g4 W hXl (by omega) (by omega) ⟨k4⟩)
  have c1 := Lib.hid (fun W => get_is X g1 lo n W hXl (by omega) (by omega) ⟨k1⟩)
  have c2 := Lib.hid (fun W => get_is v g1 0 n W hv (by omega) (by omega) ⟨h1⟩)
  have c3 := Lib.hid (fun W => get_is X g2 0 lo W hXl (by omega) (by omega) ⟨k2⟩)
  have c4 := Lib.hid (fun W => get_is x g2 0 lo W hx (by omega) (by omega) ⟨h2⟩)
  have c5 := Lib.hid (fun W => get_is X g3 ((lo : Int) + n) (64 - (lo : Int) - n) W hXl (by omega) (by omega) ⟨k3⟩)
  have c6 := Lib.hid (fun W => get_is x g3 ((lo : Int) + n) (64 - (lo : Int) - n) W hx (by omega) (by omega) ⟨h3⟩)
  have c7 := Lib.hid (fun W => get_is x g4 lo n W hx (by omega) (by omega) ⟨h4⟩)
  clear hX h1 h2 h3 h4 k1 k2 k3 k4 b1 b2 w0 w1 w2 w3
  have hz := from_self w
  go_enter Try.func4, Try.ntmps4
  go_wp2_with (first
    | (go_at_call 15; (with_reducible refine (on hz (known_any _)).mono ?_); rintro e w1 ⟨rfl, hz⟩)
    | (go_at_call 13; (with_reducible refine (on_same hz (cP.out _)).mono ?_); rintro e w1 ⟨rfl, hz⟩)
    | (go_at_call 13; (with_reducible refine (on_same hz (cQ.out _)).mono ?_); rintro e w1 ⟨rfl, hz⟩)
    | (go_at_call 11; (with_reducible refine (on_drawn hz (c1.out _)).mono ?_); rintro e w1 ⟨rfl, hz⟩)
    | (go_at_call 11; (with_reducible refine (on_drawn hz (c2.out _)).mono ?_); rintro e w1 ⟨rfl, hz⟩)
    | (go_at_call 11; (with_reducible refine (on_drawn hz (c3.out _)).mono ?_); rintro e w1 ⟨rfl, hz⟩)
    | (go_at_call 11; (with_reducible refine (on_drawn hz (c4.out _)).mono ?_); rintro e w1 ⟨rfl, hz⟩)
    | (go_at_call 11; (with_reducible refine (on_drawn hz (c5.out _)).mono ?_); rintro e w1 ⟨rfl, hz⟩)
    | (go_at_call 11; (with_reducible refine (on_drawn hz (c6.out _)).mono ?_); rintro e w1 ⟨rfl, hz⟩)
    | (go_at_call 11; (with_reducible refine (on_drawn hz (c7.out _)).mono ?_); rintro e w1 ⟨rfl, hz⟩))
  go_ret
  exact ⟨rfl, hz.below⟩

theorem order_walk (a0 : Int) (a1 : Int) (a2 : Int) (w0 : (Lit.int .i64 a0).wf = true) (w1 : (Lit.int .i64 a1).wf = true) (w2 : (Lit.int .i64 a2).wf = true) (w : World) :
    Calls Try.prog 7 #[.int .i64 a0, .int .i64 a1, .int .i64 a2] w fun e w' => e = .returned (.bool true) ∧ Below w.heap.size w w' := by
  have b0 := bounds_i64 w0
  have b1 := bounds_i64 w1
  have b2 := bounds_i64 w2
  obtain ⟨m, hm, e1⟩ : ∃ m : Nat, m < 62 ∧ (IntKind.u64.wrap a2).tmod 62 = m := by
    rw [IntKind.wrap_u64, Int.tmod_eq_emod_of_nonneg (by omega)]
    exact ⟨(a2 % 18446744073709551616 % 62).toNat, by omega, by omega⟩
  obtain ⟨Q, hQ⟩ : ∃ Q, Q = 2 ^ (1 + m) := ⟨_, rfl⟩
  have hQ1 : 2 ^ 1 ≤ Q := by rw [hQ]; exact Nat.pow_le_pow_right (by decide) (by omega)
  have hQ2 : Q ≤ 4611686018427387904 := by rw [hQ]; exact Nat.pow_le_pow_right (by decide) (by omega : 1 + m ≤ 62)
  have e2 : wrap64 ((2 : Int) ^ (1 + m)) = Q := by rw [cast_pow, ← hQ]; unfold wrap64; omega
  obtain ⟨F0, hF0⟩ : ∃ F, M.flip a0 = F := ⟨_, rfl⟩
  obtain ⟨F1, hF1⟩ : ∃ F, M.flip a1 = F := ⟨_, rfl⟩
  have f0 : (F0 : Int) = a0 + 9223372036854775808 := by rw [← hF0]; unfold M.flip; omega
  have f1 : (F1 : Int) = a1 + 9223372036854775808 := by rw [← hF1]; unfold M.flip; omega
  obtain ⟨Z0, hZ0⟩ : ∃ Z, M.zig a0 = Z := ⟨_, rfl⟩
  obtain ⟨Z1, hZ1⟩ : ∃ Z, M.zig a1 = Z := ⟨_, rfl⟩
  have hz01 : Z0 = Z1 ↔ a0 = a1 := by rw [← hZ0, ← hZ1]; exact M.zig_inj
  have hZl : Z0 < 18446744073709551616 := by rw [← hZ0]; exact M.zig_lt b0.1 b0.2
  obtain ⟨T, hT⟩ : ∃ T, M.top Z0 64 = T := ⟨_, rfl⟩
  have hnear : (-(Q : Int) ≤ a0 ∧ a0 < Q) ↔ T ≤ 1 + (m : Int) := by
    have h1 := M.near_iff a0 (1 + m)
    have h2 := M.top_le64 hZl (1 + m)
    rw [cast_pow, ← hQ] at h1
    rw [← hT, show (1 : Int) + m = ((1 + m : Nat) : Int) by omega, h2, ← hZ0]
    exact h1
  have c1 := Lib.hid (fun W => flip_is a0 F0 W b0.1 b0.2 ⟨hF0⟩)
  have c2 := Lib.hid (fun W => flip_is a1 F1 W b1.1 b1.2 ⟨hF1⟩)
  have c3 := Lib.hid (fun W => zig_is a0 Z0 W b0.1 b0.2 ⟨hZ0⟩)
  have c4 := Lib.hid (fun W => zig_is a1 Z1 W b1.1 b1.2 ⟨hZ1⟩)
  have c5 := Lib.hid (fun W => top_is Z0 T W hZl ⟨hT⟩)
  have hz := from_self w
  obtain ⟨lt, l1⟩ : ∃ b, decide (a0 < a1) = b := ⟨_, rfl⟩
  obtain ⟨eq, q1⟩ : ∃ b, (a0 == a1) = b := ⟨_, rfl⟩
  have l2 : decide (F0 < F1) = lt := by rw [← l1, decide_eq_decide]; omega
  have q2 : ((F0 : Int) == F1) = eq := by rw [← q1, Bool.eq_iff_iff, beq_iff_eq, beq_iff_eq]; omega
  have q3 : ((Z0 : Int) == Z1) = eq := by rw [← q1, Bool.eq_iff_iff, beq_iff_eq, beq_iff_eq]; omega
  have nea : (a0 < -(Q : Int) ∧ decide (T ≤ 1 + (m : Int)) = false) ∨ (-(Q : Int) ≤ a0 ∧ a0 < Q ∧ decide (T ≤ 1 + (m : Int)) = true) ∨ (-(Q : Int) ≤ a0 ∧ decide (a0 < (Q : Int)) = false ∧ decide (T ≤ 1 + (m : Int)) = false) := by
    by_cases h1 : a0 < -(Q : Int)
    · exact .inl ⟨h1, decide_eq_false (by omega)⟩
    · by_cases h2 : a0 < Q
      · exact .inr (.inl ⟨by omega, h2, decide_eq_true (by omega)⟩)
      · exact .inr (.inr ⟨by omega, decide_eq_false (by omega), decide_eq_false (by omega)⟩)
  clear hQ hF0 hF1 f0 f1 hZ0 hZ1 hz01 hT hnear w0 w1 w2 b2
  rcases nea with ⟨n1, n2⟩ | ⟨n1, n2, n3⟩ | ⟨n1, n2, n3⟩
  · go_enter Try.func7, Try.ntmps7
    go_wp2_with (first
      | (go_at_call 15; (with_reducible refine (on hz (known_any _)).mono ?_); rintro e w1 ⟨rfl, hz⟩)
      | (go_at_call 24; (with_reducible refine (on_same hz (c1.out _)).mono ?_); rintro e w1 ⟨rfl, hz⟩)
      | (go_at_call 24; (with_reducible refine (on_same hz (c2.out _)).mono ?_); rintro e w1 ⟨rfl, hz⟩)
      | (go_at_call 20; (with_reducible refine (on_same hz (c3.out _)).mono ?_); rintro e w1 ⟨rfl, hz⟩)
      | (go_at_call 20; (with_reducible refine (on_same hz (c4.out _)).mono ?_); rintro e w1 ⟨rfl, hz⟩)
      | (go_at_call 26; (with_reducible refine (on_same hz (c5.out _)).mono ?_); rintro e w1 ⟨rfl, hz⟩))
    go_ret
    exact ⟨rfl, hz.below⟩
  · go_enter Try.func7, Try.ntmps7
    go_wp2_with (first
      | (go_at_call 15; (with_reducible refine (on hz (known_any _)).mono ?_); rintro e w1 ⟨rfl, hz⟩)
      | (go_at_call 24; (with_reducible refine (on_same hz (c1.out _)).mono ?_); rintro e w1 ⟨rfl, hz⟩)
      | (go_at_call 24; (with_reducible refine (on_same hz (c2.out _)).mono ?_); rintro e w1 ⟨rfl, hz⟩)
      | (go_at_call 20; (with_reducible refine (on_same hz (c3.out _)).mono ?_); rintro e w1 ⟨rfl, hz⟩)
      | (go_at_call 20; (with_reducible refine (on_same hz (c4.out _)).mono ?_); rintro e w1 ⟨rfl, hz⟩)
      | (go_at_call 26; (with_reducible refine (on_same hz (c5.out _)).mono ?_); rintro e w1 ⟨rfl, hz⟩))
    go_ret
    exact ⟨rfl, hz.below⟩
  · go_enter Try.func7, Try.ntmps7
    go_wp2_with (first
      | (go_at_call 15; (with_reducible refine (on hz (known_any _)).mono ?_); rintro e w1 ⟨rfl, hz⟩)
      | (go_at_call 24; (with_reducible refine (on_same hz (c1.out _)).mono ?_); rintro e w1 ⟨rfl, hz⟩)
      | (go_at_call 24; (with_reducible refine (on_same hz (c2.out _)).mono ?_); rintro e w1 ⟨rfl, hz⟩)
      | (go_at_call 20; (with_reducible refine (on_same hz (c3.out _)).mono ?_); rintro e w1 ⟨rfl, hz⟩)
      | (go_at_call 20; (with_reducible refine (on_same hz (c4.out _)).mono ?_); rintro e w1 ⟨rfl, hz⟩)
      | (go_at_call 26; (with_reducible refine (on_same hz (c5.out _)).mono ?_); rintro e w1 ⟨rfl, hz⟩))
    go_ret
    exact ⟨rfl, hz.below⟩
end Go.Proofs.Ytnholkkkdmbfnaa
