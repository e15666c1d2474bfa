/-
  The law of packed fields: its walk.
-/
import Derived.Test.YtnholkkkdmbfnaaPacksWalk
import Derived.StillTailTactics
namespace Go.Proofs.Ytnholkkkdmbfnaa
open Go.RowKit

set_option maxHeartbeats 800000 in
theorem packs_some (x : Nat) (b off len cap : Nat) (LO N : Nat → Int) (V : Nat → Nat) (w : World) (hx : x < 18446744073709551616) (hlc : len ≤ cap) (hcap : cap ≤ 9223372036854775807) (hlen : 0 < len)
    (hF : Kept (∀ k, k < len → FieldAt w b (off + k * 3) (LO k) (N k) (V k))) :
    Calls Try.prog 5 #[.int .u64 x, .slice (some ⟨b, off, none⟩) len cap] w fun e w' => e = .returned (.bool true) ∧ Below w.heap.size w w' := by
  have hz := from_self w
  by_cases h30 : len ≤ 30
  · go_enter Try.func5, Try.ntmps5
    go_wp2_with fail
    go_loopw [5, 6] (fun t i wr => ∃ k q : Nat, k ≤ len ∧ i = .int .i64 k ∧ t = .int .u64 q ∧ From w wr ∧ Kept (packed x LO N V k = q)) (fun _ i _ => len - (intOf i).toNat)
    case atStart => exact ⟨0, x, Nat.zero_le _, rfl, rfl, hz, ⟨rfl⟩⟩
    case round =>
      clear hz
      obtain ⟨k, q, hk, rfl, rfl, hz, HK⟩ := hrel
      by_cases hlt : k < len
      · obtain ⟨flt, f0, f1, f2, l1, l2, n1, n2, fv⟩ := (hF.out k (by omega)).later hz.below
        have hq : q < 18446744073709551616 := by rw [← HK.out]; exact packed_lt hx _ _ _ _
        obtain ⟨q2, hq2⟩ : ∃ q2, M.put q (LO k) (N k) (V k) = q2 := ⟨_, rfl⟩
        have HN : Kept (packed x LO N V (k + 1) = q2) := ⟨by rw [packed, HK.out, hq2]⟩
        obtain ⟨lo, hlo⟩ : ∃ z, LO k = z := ⟨_, rfl⟩
        obtain ⟨n, hn⟩ : ∃ z, N k = z := ⟨_, rfl⟩
        obtain ⟨v, hv⟩ : ∃ z, V k = z := ⟨_, rfl⟩
        rw [hlo] at f0 l1 l2 hq2
        rw [hn] at f1 n1 n2 hq2
        rw [hv] at f2 fv hq2
        have cP := Lib.hid (fun W => put_ref q q2 lo n v W hq fv l1 l2 ⟨hq2⟩)
        clear HK hq2 hlo hn hv hF
        go_wp2_with fail
        go_still_tail 16, (by kernel_rfl)
        change wpList _ _ _ _ _ wr.drew
        have hz2 : From w wr.drew := ⟨hz.below.drew⟩
        generalize wr.drew = w2 at hz2 ⊢
        go_wp2_with (go_at_call 14; (with_reducible refine (on hz2 (cP.out _)).mono ?_); rintro e w1 ⟨rfl, hz3⟩)
        go_roundw
        case rel => exact ⟨k + 1, q2, by omega, by go_num, rfl, hz3, HN⟩
        case measure => simp [intOf]; omega
      · have hkm : Kept (packed x LO N V len = q) := ⟨by rw [← HK.out, show k = len by omega]⟩
        have cP := Lib.hid (fun W h => pack_some x q b off len cap LO N V W hx (by omega) ⟨h⟩ hkm)
        have hFW := Lib.hid (fun (W : World) (h : From w W) (k : Nat) (hk : k < len) => (hF.out k (by omega)).later h.below)
        clear HK hkm hF
        go_wp2_with (first
          | (go_at_call 15; (with_reducible refine (on hz (known_any _)).mono ?_); rintro e w1 ⟨rfl, hz⟩)
          | (go_at_call 16; refine (on hz (cP.out _ (hFW.out _ hz))).mono ?_; rintro e w1 ⟨rfl, hz⟩))
        go_ret
        exact ⟨rfl, hz.below⟩
  · go_enter Try.func5, Try.ntmps5
    go_wp2_with fail
    go_loopw [5, 6] (fun t i wr => ∃ k q : Nat, k ≤ 30 ∧ i = .int .i64 k ∧ t = .int .u64 q ∧ From w wr ∧ Kept (packed x LO N V k = q)) (fun _ i _ => 30 - (intOf i).toNat)
    case atStart => exact ⟨0, x, Nat.zero_le _, rfl, rfl, hz, ⟨rfl⟩⟩
    case round =>
      clear hz
      obtain ⟨k, q, hk, rfl, rfl, hz, HK⟩ := hrel
      by_cases hlt : k < 30
      · obtain ⟨flt, f0, f1, f2, l1, l2, n1, n2, fv⟩ := (hF.out k (by omega)).later hz.below
        have hq : q < 18446744073709551616 := by rw [← HK.out]; exact packed_lt hx _ _ _ _
        obtain ⟨q2, hq2⟩ : ∃ q2, M.put q (LO k) (N k) (V k) = q2 := ⟨_, rfl⟩
        have HN : Kept (packed x LO N V (k + 1) = q2) := ⟨by rw [packed, HK.out, hq2]⟩
        obtain ⟨lo, hlo⟩ : ∃ z, LO k = z := ⟨_, rfl⟩
        obtain ⟨n, hn⟩ : ∃ z, N k = z := ⟨_, rfl⟩
        obtain ⟨v, hv⟩ : ∃ z, V k = z := ⟨_, rfl⟩
        rw [hlo] at f0 l1 l2 hq2
        rw [hn] at f1 n1 n2 hq2
        rw [hv] at f2 fv hq2
        have cP := Lib.hid (fun W => put_ref q q2 lo n v W hq fv l1 l2 ⟨hq2⟩)
        clear HK hq2 hlo hn hv hF
        go_wp2_with fail
        go_still_tail 16, (by kernel_rfl)
        change wpList _ _ _ _ _ wr.drew
        have hz2 : From w wr.drew := ⟨hz.below.drew⟩
        generalize wr.drew = w2 at hz2 ⊢
        go_wp2_with (go_at_call 14; (with_reducible refine (on hz2 (cP.out _)).mono ?_); rintro e w1 ⟨rfl, hz3⟩)
        go_roundw
        case rel => exact ⟨k + 1, q2, by omega, by go_num, rfl, hz3, HN⟩
        case measure => simp [intOf]; omega
      · have hkm : Kept (packed x LO N V 30 = q) := ⟨by rw [← HK.out, show k = 30 by omega]⟩
        have cP := Lib.hid (fun W h => pack_some x q b off 30 cap LO N V W hx (by omega) ⟨h⟩ hkm)
        have hFW := Lib.hid (fun (W : World) (h : From w W) (k : Nat) (hk : k < 30) => (hF.out k (by omega)).later h.below)
        clear HK hkm hF
        go_wp2_with (first
          | (go_at_call 15; (with_reducible refine (on hz (known_any _)).mono ?_); rintro e w1 ⟨rfl, hz⟩)
          | (go_at_call 16; refine (on hz (cP.out _ (hFW.out _ hz))).mono ?_; rintro e w1 ⟨rfl, hz⟩))
        go_ret
        exact ⟨rfl, hz.below⟩

theorem packs_none (x : Nat) (a : Option Addr) (cap : Nat) (w : World) :
    Calls Try.prog 5 #[.int .u64 x, .slice a 0 cap] w fun e w' => e = .returned (.bool true) ∧ Below w.heap.size w w' := by
  have hz := from_self w
  have cP := Lib.hid (fun a W => pack_none x a cap W)
  go_enter Try.func5, Try.ntmps5
  go_wp2_with fail
  refine wp_loop_rounds 1 ?_
  rw [rounds_succ]
  go_wp2_with (first
    | (go_at_call 15; (with_reducible refine (on hz (known_any _)).mono ?_); rintro e w1 ⟨rfl, hz⟩)
    | (go_at_call 16; refine (on hz (cP.out _ _)).mono ?_; rintro e w1 ⟨rfl, hz⟩))
  go_ret
  exact ⟨rfl, hz.below⟩
end Go.Proofs.Ytnholkkkdmbfnaa
