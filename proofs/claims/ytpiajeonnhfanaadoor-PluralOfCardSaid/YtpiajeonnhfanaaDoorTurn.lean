/-
  The document's turn: a text's letters small, or great.
-/
import Derived.Test.YtpiajeonnhfanaaDoorGl
set_option linter.unusedVariables false
set_option linter.unusedSimpArgs false
namespace Go.Proofs.YtpiajeonnhfanaaDoor
open Go.RowKit
attribute [local go_sem ↓] Go.wp_at_zero Go.wp_at_succ

set_option maxRecDepth 100000 in
set_option maxHeartbeats 2000000 in
theorem turn_low (s : ByteArray) (w : World) (hs : s.size ≤ 100) : Calls Tryd.prog 40 #[.string s, .bool false] w fun e w' => e = .returned (.string (D.sb (D.low (D.ns s)))) ∧ Below w.heap.size w w' := by
  go_enter Tryd.func40, Tryd.ntmps40
  go_wp2
  go_loopw [5, 6] (fun o i wr => ∃ (k : Nat) (A : Option Addr) (cp : Nat), k ≤ s.size ∧ o = .slice A k cp ∧ i = .int .i64 k ∧ Own w.heap.size wr A k cp (((D.ns s).take k).map D.lowB) ∧ Below w.heap.size w wr) (fun _ i _ => s.size - (intOf i).toNat)
  case atStart => exact ⟨0, none, 0, Nat.zero_le _, rfl, rfl, Own.nil (Nat.le_refl _), Below.refl _ _⟩
  case round =>
    obtain ⟨k, A, cp, hk, rfl, rfl, HO, hbel⟩ := hrel
    by_cases hlt : k < s.size
    · have hb := ns_at hlt
      obtain ⟨c, hc⟩ : ∃ c, s[k].toNat = c := ⟨_, rfl⟩
      have hclt := s[k].toNat_lt
      have hclt' : (s[k].toNat : Int) < 256 := by omega
      have hb2 := map_next D.lowB hb
      have HB2 := Lib.hid hb2
      clear hb hb2
      rcases cls (s[k].toNat) with ⟨h2, _, _, h5, h6⟩ | ⟨h1, h2, _, _, h5, h6⟩ | ⟨h1, h2, _, _, h5, h6⟩ | ⟨h1, h2, _, _, h5, h6⟩ | ⟨h1, h2, _, _, h5, h6⟩ | ⟨h1, h2, _, _, h5, h6⟩ | ⟨h1, _, _, h5, h6⟩
      · have HV := Lib.hid h5
        clear h5 h6 hc
        go_wp2_with (at_builtin; refine app _ rfl (.tmp 40) (.tmp 42) rfl rfl (HO.alloc _) rfl (Own.lit (b := s[k].toNat) HO.base (by omega)).to_row (by omega) ?_; intro A1 c1 w1 ho1 hg1 hat1)
        go_roundw
        case rel => exact ⟨k + 1, A1, c1, by omega, rfl, by go_num, by rw [HB2.out, HV.out]; exact ho1, (hbel.alloc hbel.size _).grown hg1 (by have := hbel.size; simp; omega) HO.block_le⟩
        case measure => simp [intOf]; omega
      · have HV := Lib.hid h5
        clear h5 h6 hc
        go_wp2_with (at_builtin; refine app _ rfl (.tmp 40) (.tmp 42) rfl rfl (HO.alloc _) rfl (Own.lit (b := s[k].toNat) HO.base (by omega)).to_row (by omega) ?_; intro A1 c1 w1 ho1 hg1 hat1)
        go_roundw
        case rel => exact ⟨k + 1, A1, c1, by omega, rfl, by go_num, by rw [HB2.out, HV.out]; exact ho1, (hbel.alloc hbel.size _).grown hg1 (by have := hbel.size; simp; omega) HO.block_le⟩
        case measure => simp [intOf]; omega
      · have HV := Lib.hid h5
        clear h5 h6 hc
        go_wp2_with (at_builtin; refine app _ rfl (.tmp 40) (.tmp 42) rfl rfl (HO.alloc _) rfl (Own.lit (b := s[k].toNat) HO.base (by omega)).to_row (by omega) ?_; intro A1 c1 w1 ho1 hg1 hat1)
        go_roundw
        case rel => exact ⟨k + 1, A1, c1, by omega, rfl, by go_num, by rw [HB2.out, HV.out]; exact ho1, (hbel.alloc hbel.size _).grown hg1 (by have := hbel.size; simp; omega) HO.block_le⟩
        case measure => simp [intOf]; omega
      · have HV := Lib.hid h5
        clear h5 h6 hc
        have i1 : IntKind.u8.wrap ((s[k].toNat : Int) + 32) = (s[k].toNat : Int) + 32 := by rw [IntKind.wrap_u8]; omega
        have j1 : (96 : Int) < (s[k].toNat : Int) + 32 := by omega
        have j2 : (s[k].toNat : Int) + 32 < 123 := by omega
        go_wp2_with (at_builtin; refine app _ rfl (.tmp 40) (.tmp 42) rfl rfl (HO.alloc _) rfl (Own.lit (b := s[k].toNat + 32) HO.base (by omega)).to_row (by omega) ?_; intro A1 c1 w1 ho1 hg1 hat1)
        go_roundw
        case rel => exact ⟨k + 1, A1, c1, by omega, rfl, by go_num, by rw [HB2.out, HV.out]; exact ho1, (hbel.alloc hbel.size _).grown hg1 (by have := hbel.size; simp; omega) HO.block_le⟩
        case measure => simp [intOf]; omega
      · have HV := Lib.hid h5
        clear h5 h6 hc
        go_wp2_with (at_builtin; refine app _ rfl (.tmp 40) (.tmp 42) rfl rfl (HO.alloc _) rfl (Own.lit (b := s[k].toNat) HO.base (by omega)).to_row (by omega) ?_; intro A1 c1 w1 ho1 hg1 hat1)
        go_roundw
        case rel => exact ⟨k + 1, A1, c1, by omega, rfl, by go_num, by rw [HB2.out, HV.out]; exact ho1, (hbel.alloc hbel.size _).grown hg1 (by have := hbel.size; simp; omega) HO.block_le⟩
        case measure => simp [intOf]; omega
      · have HV := Lib.hid h5
        clear h5 h6 hc
        go_wp2_with (at_builtin; refine app _ rfl (.tmp 40) (.tmp 42) rfl rfl (HO.alloc _) rfl (Own.lit (b := s[k].toNat) HO.base (by omega)).to_row (by omega) ?_; intro A1 c1 w1 ho1 hg1 hat1)
        go_roundw
        case rel => exact ⟨k + 1, A1, c1, by omega, rfl, by go_num, by rw [HB2.out, HV.out]; exact ho1, (hbel.alloc hbel.size _).grown hg1 (by have := hbel.size; simp; omega) HO.block_le⟩
        case measure => simp [intOf]; omega
      · have HV := Lib.hid h5
        clear h5 h6 hc
        go_wp2_with (at_builtin; refine app _ rfl (.tmp 40) (.tmp 42) rfl rfl (HO.alloc _) rfl (Own.lit (b := s[k].toNat) HO.base (by omega)).to_row (by omega) ?_; intro A1 c1 w1 ho1 hg1 hat1)
        go_roundw
        case rel => exact ⟨k + 1, A1, c1, by omega, rfl, by go_num, by rw [HB2.out, HV.out]; exact ho1, (hbel.alloc hbel.size _).grown hg1 (by have := hbel.size; simp; omega) HO.block_le⟩
        case measure => simp [intOf]; omega
    · obtain rfl : k = s.size := by omega
      have HT : ((D.ns s).take s.size).map D.lowB = D.low (D.ns s) := by rw [List.take_of_length_le (by rw [D.ns_len]; omega)]; rfl
      rw [HT] at HO
      have hst := str_run wr A s.size cp _ HO.to_row (low_lt (D.ns_lt s))
      clear HT
      go_wp2
      go_ret
      exact ⟨rfl, hbel⟩
set_option maxRecDepth 100000 in
set_option maxHeartbeats 2000000 in
theorem turn_up (s : ByteArray) (w : World) (hs : s.size ≤ 100) : Calls Tryd.prog 40 #[.string s, .bool true] w fun e w' => e = .returned (.string (D.sb (D.up (D.ns s)))) ∧ Below w.heap.size w w' := by
  go_enter Tryd.func40, Tryd.ntmps40
  go_wp2
  go_loopw [5, 6] (fun o i wr => ∃ (k : Nat) (A : Option Addr) (cp : Nat), k ≤ s.size ∧ o = .slice A k cp ∧ i = .int .i64 k ∧ Own w.heap.size wr A k cp (((D.ns s).take k).map D.upB) ∧ Below w.heap.size w wr) (fun _ i _ => s.size - (intOf i).toNat)
  case atStart => exact ⟨0, none, 0, Nat.zero_le _, rfl, rfl, Own.nil (Nat.le_refl _), Below.refl _ _⟩
  case round =>
    obtain ⟨k, A, cp, hk, rfl, rfl, HO, hbel⟩ := hrel
    by_cases hlt : k < s.size
    · have hb := ns_at hlt
      obtain ⟨c, hc⟩ : ∃ c, s[k].toNat = c := ⟨_, rfl⟩
      have hclt := s[k].toNat_lt
      have hclt' : (s[k].toNat : Int) < 256 := by omega
      have hb2 := map_next D.upB hb
      have HB2 := Lib.hid hb2
      clear hb hb2
      rcases cls (s[k].toNat) with ⟨h2, _, _, h5, h6⟩ | ⟨h1, h2, _, _, h5, h6⟩ | ⟨h1, h2, _, _, h5, h6⟩ | ⟨h1, h2, _, _, h5, h6⟩ | ⟨h1, h2, _, _, h5, h6⟩ | ⟨h1, h2, _, _, h5, h6⟩ | ⟨h1, _, _, h5, h6⟩
      · have HV := Lib.hid h6
        clear h5 h6 hc
        go_wp2_with (at_builtin; refine app _ rfl (.tmp 40) (.tmp 42) rfl rfl (HO.alloc _) rfl (Own.lit (b := s[k].toNat) HO.base (by omega)).to_row (by omega) ?_; intro A1 c1 w1 ho1 hg1 hat1)
        go_roundw
        case rel => exact ⟨k + 1, A1, c1, by omega, rfl, by go_num, by rw [HB2.out, HV.out]; exact ho1, (hbel.alloc hbel.size _).grown hg1 (by have := hbel.size; simp; omega) HO.block_le⟩
        case measure => simp [intOf]; omega
      · have HV := Lib.hid h6
        clear h5 h6 hc
        go_wp2_with (at_builtin; refine app _ rfl (.tmp 40) (.tmp 42) rfl rfl (HO.alloc _) rfl (Own.lit (b := s[k].toNat) HO.base (by omega)).to_row (by omega) ?_; intro A1 c1 w1 ho1 hg1 hat1)
        go_roundw
        case rel => exact ⟨k + 1, A1, c1, by omega, rfl, by go_num, by rw [HB2.out, HV.out]; exact ho1, (hbel.alloc hbel.size _).grown hg1 (by have := hbel.size; simp; omega) HO.block_le⟩
        case measure => simp [intOf]; omega
      · have HV := Lib.hid h6
        clear h5 h6 hc
        go_wp2_with (at_builtin; refine app _ rfl (.tmp 40) (.tmp 42) rfl rfl (HO.alloc _) rfl (Own.lit (b := s[k].toNat) HO.base (by omega)).to_row (by omega) ?_; intro A1 c1 w1 ho1 hg1 hat1)
        go_roundw
        case rel => exact ⟨k + 1, A1, c1, by omega, rfl, by go_num, by rw [HB2.out, HV.out]; exact ho1, (hbel.alloc hbel.size _).grown hg1 (by have := hbel.size; simp; omega) HO.block_le⟩
        case measure => simp [intOf]; omega
      · have HV := Lib.hid h6
        clear h5 h6 hc
        go_wp2_with (at_builtin; refine app _ rfl (.tmp 40) (.tmp 42) rfl rfl (HO.alloc _) rfl (Own.lit (b := s[k].toNat) HO.base (by omega)).to_row (by omega) ?_; intro A1 c1 w1 ho1 hg1 hat1)
        go_roundw
        case rel => exact ⟨k + 1, A1, c1, by omega, rfl, by go_num, by rw [HB2.out, HV.out]; exact ho1, (hbel.alloc hbel.size _).grown hg1 (by have := hbel.size; simp; omega) HO.block_le⟩
        case measure => simp [intOf]; omega
      · have HV := Lib.hid h6
        clear h5 h6 hc
        go_wp2_with (at_builtin; refine app _ rfl (.tmp 40) (.tmp 42) rfl rfl (HO.alloc _) rfl (Own.lit (b := s[k].toNat) HO.base (by omega)).to_row (by omega) ?_; intro A1 c1 w1 ho1 hg1 hat1)
        go_roundw
        case rel => exact ⟨k + 1, A1, c1, by omega, rfl, by go_num, by rw [HB2.out, HV.out]; exact ho1, (hbel.alloc hbel.size _).grown hg1 (by have := hbel.size; simp; omega) HO.block_le⟩
        case measure => simp [intOf]; omega
      · have HV := Lib.hid h6
        clear h5 h6 hc
        have i1 : IntKind.u8.wrap ((s[k].toNat : Int) - 32) = (s[k].toNat : Int) - 32 := by rw [IntKind.wrap_u8]; omega
        go_wp2_with (at_builtin; refine app _ rfl (.tmp 40) (.tmp 42) rfl rfl (HO.alloc _) rfl (Own.lit (b := s[k].toNat - 32) HO.base (by omega)).to_row (by omega) ?_; intro A1 c1 w1 ho1 hg1 hat1)
        go_roundw
        case rel => exact ⟨k + 1, A1, c1, by omega, rfl, by go_num, by rw [HB2.out, HV.out]; exact ho1, (hbel.alloc hbel.size _).grown hg1 (by have := hbel.size; simp; omega) HO.block_le⟩
        case measure => simp [intOf]; omega
      · have HV := Lib.hid h6
        clear h5 h6 hc
        go_wp2_with (at_builtin; refine app _ rfl (.tmp 40) (.tmp 42) rfl rfl (HO.alloc _) rfl (Own.lit (b := s[k].toNat) HO.base (by omega)).to_row (by omega) ?_; intro A1 c1 w1 ho1 hg1 hat1)
        go_roundw
        case rel => exact ⟨k + 1, A1, c1, by omega, rfl, by go_num, by rw [HB2.out, HV.out]; exact ho1, (hbel.alloc hbel.size _).grown hg1 (by have := hbel.size; simp; omega) HO.block_le⟩
        case measure => simp [intOf]; omega
    · obtain rfl : k = s.size := by omega
      have HT : ((D.ns s).take s.size).map D.upB = D.up (D.ns s) := by rw [List.take_of_length_le (by rw [D.ns_len]; omega)]; rfl
      rw [HT] at HO
      have hst := str_run wr A s.size cp _ HO.to_row (up_lt (D.ns_lt s))
      clear HT
      go_wp2
      go_ret
      exact ⟨rfl, hbel⟩
end Go.Proofs.YtpiajeonnhfanaaDoor
