/-
  The law of which bytes come first: its walk.
-/
import Derived.Test.YtkjnaflifepncaaLaw2
set_option linter.unusedVariables false
set_option linter.unusedSimpArgs false
namespace Go.Proofs.Ytkjnaflifepncaa
open Go.RowKit

set_option maxRecDepth 20000 in
set_option maxHeartbeats 1000000 in
theorem compares_cut (A1 B1 A B : Option Addr) (n c n2 d m m2 : Nat) (l k : List Nat) (w : World) (hA : Row w A1 m (bys l)) (hB : Row w B1 m2 (bys k)) (hl2 : Kept (∀ b ∈ l, b < 256)) (hk2 : Kept (∀ b ∈ k, b < 256))
    (hm : m ≤ 60) (hm2 : m2 ≤ 60) (hmc : m ≤ c) (hmd : m2 ≤ d)
    (hmin : ∀ ts t W, (Builtin.min_ ts t #[.int .i64 (n : Int), .int .i64 60]).run Try.prog W = .ok (.int .i64 (m : Int)) W)
    (hmin2 : ∀ ts t W, (Builtin.min_ ts t #[.int .i64 (n2 : Int), .int .i64 60]).run Try.prog W = .ok (.int .i64 (m2 : Int)) W)
    (hcut : ∀ W, (Instr.slice 25 (.slice A n c) none (some (.int .i64 (m : Int))) none).run Try.prog W = .ok (.slice A1 m c) W)
    (hcut2 : ∀ W, (Instr.slice 25 (.slice B n2 d) none (some (.int .i64 (m2 : Int))) none).run Try.prog W = .ok (.slice B1 m2 d) W) :
    Calls Try.prog 7 #[.slice A n c, .slice B n2 d] w fun e w' => e = .returned (.bool true) ∧ Below w.heap.size w w' := by
  have hz := from_self w
  rcases D.cmp_in l k with hr | hr | hr
  · have cn : D.cmp k l = 1 := by rw [D.cmp_neg l k, hr]; first | done | rfl
    have c1 := Lib.hid (fun W h1 h2 => less_any A1 B1 m c m2 d l k true W h1 h2 (by omega) (by omega) ⟨by rw [D.less, hr]; first | done | rfl⟩)
    have c2 := Lib.hid (fun W h1 h2 => less_any B1 A1 m2 d m c k l false W h1 h2 (by omega) (by omega) ⟨by rw [D.less, cn]; first | done | rfl⟩)
    have c3 := Lib.hid (fun W h1 h2 => compare_any A1 B1 m c m2 d l k (-1) W h1 h2 hl2 hk2 ⟨hr⟩)
    have c4 := Lib.hid (fun W h1 h2 => compare_any B1 A1 m2 d m c k l (1) W h1 h2 hk2 hl2 ⟨cn⟩)
    have c5 := Lib.hid (fun W h1 h2 => compare_any A1 A1 m c m c l l 0 W h1 h2 hl2 hl2 ⟨D.cmp_self l⟩)
    clear hr cn
    go_enter Try.func7, Try.ntmps7
    go_wp2_with fail
    go_quiet (fail)
    go_wp2_with (first
      | (go_at_call 22; (with_reducible refine (c1.out _ (hA.drewN _) (hB.drewN _)).mono ?_); rintro e w2 ⟨rfl, q, rfl⟩)
      | (go_at_call 22; (with_reducible refine (c2.out _ (hB.drewN _) (hA.drewN _)).mono ?_); rintro e w2 ⟨rfl, q2, rfl⟩)
      | (go_at_call 12; (with_reducible refine (on (hz.drewN _) (known_any _)).mono ?_); rintro e w1 ⟨rfl, hz1⟩)
      | (go_at_call 21; (with_reducible refine (c3.out _ (hA.since hz1) (hB.since hz1)).mono ?_); rintro e w2 ⟨rfl, rfl⟩)
      | (go_at_call 21; (with_reducible refine (c4.out _ (hB.since hz1) (hA.since hz1)).mono ?_); rintro e w2 ⟨rfl, rfl⟩)
      | (go_at_call 21; (with_reducible refine (c5.out _ (hA.since hz1) (hA.since hz1)).mono ?_); rintro e w2 ⟨rfl, rfl⟩))
    go_ret
    exact ⟨rfl, hz1.below⟩
  · have cn : D.cmp k l = 0 := by rw [D.cmp_neg l k, hr]; first | done | rfl
    have c1 := Lib.hid (fun W h1 h2 => less_any A1 B1 m c m2 d l k false W h1 h2 (by omega) (by omega) ⟨by rw [D.less, hr]; first | done | rfl⟩)
    have c2 := Lib.hid (fun W h1 h2 => less_any B1 A1 m2 d m c k l false W h1 h2 (by omega) (by omega) ⟨by rw [D.less, cn]; first | done | rfl⟩)
    have c3 := Lib.hid (fun W h1 h2 => compare_any A1 B1 m c m2 d l k (0) W h1 h2 hl2 hk2 ⟨hr⟩)
    have c4 := Lib.hid (fun W h1 h2 => compare_any B1 A1 m2 d m c k l (0) W h1 h2 hk2 hl2 ⟨cn⟩)
    have c5 := Lib.hid (fun W h1 h2 => compare_any A1 A1 m c m c l l 0 W h1 h2 hl2 hl2 ⟨D.cmp_self l⟩)
    clear hr cn
    go_enter Try.func7, Try.ntmps7
    go_wp2_with fail
    go_quiet (fail)
    go_wp2_with (first
      | (go_at_call 22; (with_reducible refine (c1.out _ (hA.drewN _) (hB.drewN _)).mono ?_); rintro e w2 ⟨rfl, q, rfl⟩)
      | (go_at_call 22; (with_reducible refine (c2.out _ (hB.drewN _) (hA.drewN _)).mono ?_); rintro e w2 ⟨rfl, q2, rfl⟩)
      | (go_at_call 12; (with_reducible refine (on (hz.drewN _) (known_any _)).mono ?_); rintro e w1 ⟨rfl, hz1⟩)
      | (go_at_call 21; (with_reducible refine (c3.out _ (hA.since hz1) (hB.since hz1)).mono ?_); rintro e w2 ⟨rfl, rfl⟩)
      | (go_at_call 21; (with_reducible refine (c4.out _ (hB.since hz1) (hA.since hz1)).mono ?_); rintro e w2 ⟨rfl, rfl⟩)
      | (go_at_call 21; (with_reducible refine (c5.out _ (hA.since hz1) (hA.since hz1)).mono ?_); rintro e w2 ⟨rfl, rfl⟩))
    go_ret
    exact ⟨rfl, hz1.below⟩
  · have cn : D.cmp k l = -1 := by rw [D.cmp_neg l k, hr]; first | done | rfl
    have c1 := Lib.hid (fun W h1 h2 => less_any A1 B1 m c m2 d l k false W h1 h2 (by omega) (by omega) ⟨by rw [D.less, hr]; first | done | rfl⟩)
    have c2 := Lib.hid (fun W h1 h2 => less_any B1 A1 m2 d m c k l true W h1 h2 (by omega) (by omega) ⟨by rw [D.less, cn]; first | done | rfl⟩)
    have c3 := Lib.hid (fun W h1 h2 => compare_any A1 B1 m c m2 d l k (1) W h1 h2 hl2 hk2 ⟨hr⟩)
    have c4 := Lib.hid (fun W h1 h2 => compare_any B1 A1 m2 d m c k l (-1) W h1 h2 hk2 hl2 ⟨cn⟩)
    have c5 := Lib.hid (fun W h1 h2 => compare_any A1 A1 m c m c l l 0 W h1 h2 hl2 hl2 ⟨D.cmp_self l⟩)
    clear hr cn
    go_enter Try.func7, Try.ntmps7
    go_wp2_with fail
    go_quiet (fail)
    go_wp2_with (first
      | (go_at_call 22; (with_reducible refine (c1.out _ (hA.drewN _) (hB.drewN _)).mono ?_); rintro e w2 ⟨rfl, q, rfl⟩)
      | (go_at_call 22; (with_reducible refine (c2.out _ (hB.drewN _) (hA.drewN _)).mono ?_); rintro e w2 ⟨rfl, q2, rfl⟩)
      | (go_at_call 12; (with_reducible refine (on (hz.drewN _) (known_any _)).mono ?_); rintro e w1 ⟨rfl, hz1⟩)
      | (go_at_call 21; (with_reducible refine (c3.out _ (hA.since hz1) (hB.since hz1)).mono ?_); rintro e w2 ⟨rfl, rfl⟩)
      | (go_at_call 21; (with_reducible refine (c4.out _ (hB.since hz1) (hA.since hz1)).mono ?_); rintro e w2 ⟨rfl, rfl⟩)
      | (go_at_call 21; (with_reducible refine (c5.out _ (hA.since hz1) (hA.since hz1)).mono ?_); rintro e w2 ⟨rfl, rfl⟩))
    go_ret
    exact ⟨rfl, hz1.below⟩

theorem compares_all (a : Option Addr) (len cap : Nat) (zs : List Int) (a2 : Option Addr) (len2 cap2 : Nat) (zs2 : List Int) (W : World) (h : IsRow .u8 W a len cap zs) (h2 : IsRow .u8 W a2 len2 cap2 zs2) :
    Calls Try.prog 7 #[.slice a len cap, .slice a2 len2 cap2] W fun e w' => e = .returned (.bool true) ∧ Below W.heap.size W w' := by
  obtain ⟨l, hr, hl, h3, h4⟩ := h.bytes
  obtain ⟨k, hs, hk, h5, h6⟩ := h2.bytes
  obtain ⟨m, hm1, hm2, hmin⟩ := min_run len 60 60 rfl
  obtain ⟨m', hm3, hm4, hmin2⟩ := min_run len2 60 60 rfl
  obtain ⟨A1, hcut, hR⟩ := upto_run_b a len cap m m rfl (by omega)
  obtain ⟨B1, hcut2, hR2⟩ := upto_run_b a2 len2 cap2 m' m' rfl (by omega)
  have q1 := hR W _ hr hm1
  have q2 := hR2 W _ hs hm3
  rw [bys_take] at q1 q2
  exact compares_cut A1 B1 a a2 len cap len2 cap2 m m' _ _ W q1 q2 ⟨fun b hb => hl.out b (List.mem_of_mem_take hb)⟩ ⟨fun b hb => hk.out b (List.mem_of_mem_take hb)⟩ hm2 hm4 (by omega) (by omega) hmin hmin2 hcut hcut2
end Go.Proofs.Ytkjnaflifepncaa
