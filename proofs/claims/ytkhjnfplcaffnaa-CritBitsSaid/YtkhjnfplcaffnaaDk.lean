/-
  Which bytes are letters and digits; which texts are languages, scripts and regions: the program's; the kinds of the document's.
  The document's kind, turn and cut.
  The document's turn: a text's letters small, or great.
-/
import Derived.Test.YtkhjnfplcaffnaaGb
import Derived.Lib.ConvBytes
import Derived.Deep.RegionHeld3
import Derived.Deep.DrawnRows
import Derived.Laws.IdiomStrings
import Derived.Deep.QuietTactic
import Derived.BigQuiet
import Derived.IntWalk
import Derived.Laws.BytesString
import Derived.Lib.BufferRead
import Derived.Lib.IndexBytes
import Derived.Lib.IndexLaws
import Derived.Lib.Split
set_option linter.unusedVariables false
set_option linter.unusedSimpArgs false
namespace Go.Proofs.Ytkhjnfplcaffnaa
open Go.RowKit

theorem ns_at {s : ByteArray} {k : Nat} (h : k < s.size) : (D.ns s)[k]? = some (s[k].toNat) := by
  simp [D.ns]
  exact ⟨s[k], by rw [Array.getElem?_eq_getElem (by exact h)]; rfl, rfl⟩
/-- So far each byte is of the kind. -/
structure Fine (f : Nat → Bool) (t : List Nat) (k : Nat) : Prop where
  out : (t.take k).all f = true
theorem fine_first (f : Nat → Bool) (t : List Nat) : Fine f t 0 := ⟨rfl⟩
theorem take_next {t : List Nat} {k b : Nat} (h : t[k]? = some b) : t.take (k + 1) = t.take k ++ [b] := by rw [List.take_add_one, h]; rfl
theorem fine_next {f : Nat → Bool} {t : List Nat} {k b : Nat} (h : Fine f t k) (hb : t[k]? = some b) (hm : f b = true) : Fine f t (k + 1) := ⟨by rw [take_next hb, List.all_append, h.out]; simp [hm]⟩
theorem fine_all {f : Nat → Bool} {t : List Nat} {k : Nat} (h : Fine f t k) (hk : t.length ≤ k) : t.all f = true := by have := h.out; rwa [List.take_of_length_le hk] at this
theorem not_fine {f : Nat → Bool} {t : List Nat} {k b : Nat} (hb : t[k]? = some b) (hm : f b = false) : t.all f = false := by
  cases h : t.all f
  · rfl
  · have := List.all_eq_true.1 h b (List.mem_of_getElem? hb)
    rw [hm] at this; cases this
end Go.Proofs.Ytkhjnfplcaffnaa
set_option linter.unusedVariables false
set_option linter.unusedSimpArgs false
namespace Go.Proofs.Ytkhjnfplcaffnaa
open Go.RowKit
attribute [local go_sem ↓] Go.wp_at_zero Go.wp_at_succ

/-- The kinds of bytes. -/
theorem ns_take (s : ByteArray) (k : Nat) : D.ns (s.extract 0 k) = (D.ns s).take k := by
  simp only [D.ns]
  rw [Lib.extract_from_zero, List.map_take]
theorem ns_drop (s : ByteArray) (k : Nat) : D.ns (s.extract k s.size) = (D.ns s).drop k := by
  simp only [D.ns]
  rw [Lib.extract_to_end, List.map_drop]
theorem cls (c : Nat) : (c ≤ 47 ∧ D.letB c = false ∧ D.digB c = false ∧ D.lowB c = c ∧ D.upB c = c) ∨ (48 ≤ c ∧ c ≤ 57 ∧ D.letB c = false ∧ D.digB c = true ∧ D.lowB c = c ∧ D.upB c = c) ∨ (58 ≤ c ∧ c ≤ 64 ∧ D.letB c = false ∧ D.digB c = false ∧ D.lowB c = c ∧ D.upB c = c) ∨ (65 ≤ c ∧ c ≤ 90 ∧ D.letB c = true ∧ D.digB c = false ∧ D.lowB c = c + 32 ∧ D.upB c = c) ∨ (91 ≤ c ∧ c ≤ 96 ∧ D.letB c = false ∧ D.digB c = false ∧ D.lowB c = c ∧ D.upB c = c) ∨ (97 ≤ c ∧ c ≤ 122 ∧ D.letB c = true ∧ D.digB c = false ∧ D.lowB c = c ∧ D.upB c = c - 32) ∨ (123 ≤ c ∧ D.letB c = false ∧ D.digB c = false ∧ D.lowB c = c ∧ D.upB c = c) := by
  have hl : ∀ b, (D.letB c = b) = (decide ((97 ≤ c ∧ c ≤ 122) ∨ (65 ≤ c ∧ c ≤ 90)) = b) := fun b => rfl
  have hd : ∀ b, (D.digB c = b) = (decide (48 ≤ c ∧ c ≤ 57) = b) := fun b => rfl
  simp only [hl, hd, D.lowB, D.upB, decide_eq_true_eq, decide_eq_false_iff_not]
  by_cases h1 : c ≤ 47
  · exact .inl ⟨h1, by omega, by omega, by rw [if_neg (by omega)], by rw [if_neg (by omega)]⟩
  by_cases h2 : c ≤ 57
  · exact .inr (.inl ⟨by omega, h2, by omega, by omega, by rw [if_neg (by omega)], by rw [if_neg (by omega)]⟩)
  by_cases h3 : c ≤ 64
  · exact .inr (.inr (.inl ⟨by omega, h3, by omega, by omega, by rw [if_neg (by omega)], by rw [if_neg (by omega)]⟩))
  by_cases h4 : c ≤ 90
  · exact .inr (.inr (.inr (.inl ⟨by omega, h4, by omega, by omega, by rw [if_pos (by omega)], by rw [if_neg (by omega)]⟩)))
  by_cases h5 : c ≤ 96
  · exact .inr (.inr (.inr (.inr (.inl ⟨by omega, h5, by omega, by omega, by rw [if_neg (by omega)], by rw [if_neg (by omega)]⟩))))
  by_cases h6 : c ≤ 122
  · exact .inr (.inr (.inr (.inr (.inr (.inl ⟨by omega, h6, by omega, by omega, by rw [if_neg (by omega)], by rw [if_pos (by omega)]⟩)))))
  · exact .inr (.inr (.inr (.inr (.inr (.inr ⟨by omega, by omega, by omega, by rw [if_neg (by omega)], by rw [if_neg (by omega)]⟩)))))

/-- So many so far. -/
structure Cnt (f : Nat → Bool) (t : List Nat) (k n : Nat) : Prop where
  out : (t.take k).countP f = n
theorem cnt_first (f : Nat → Bool) (t : List Nat) : Cnt f t 0 0 := ⟨rfl⟩
theorem cnt_yes {f : Nat → Bool} {t : List Nat} {k n c : Nat} (h : Cnt f t k n) (hc : t[k]? = some c) (hf : f c = true) : Cnt f t (k + 1) (n + 1) := ⟨by rw [take_next hc, List.countP_append, h.out]; simp [hf]⟩
theorem cnt_no {f : Nat → Bool} {t : List Nat} {k n c : Nat} (h : Cnt f t k n) (hc : t[k]? = some c) (hf : f c = false) : Cnt f t (k + 1) n := ⟨by rw [take_next hc, List.countP_append, h.out]; simp [hf]⟩
theorem cnt_le {f : Nat → Bool} {t : List Nat} {k n : Nat} (h : Cnt f t k n) : n ≤ k := by
  have h1 := h.out
  have h2 := List.countP_le_length (p := f) (l := t.take k)
  have h3 := List.length_take_le k t
  omega
theorem cnt_all {f : Nat → Bool} {t : List Nat} {k n : Nat} (h : Cnt f t k n) (hk : t.length ≤ k) : (n = t.length) ↔ t.all f = true := by
  have h1 := h.out
  rw [List.take_of_length_le hk] at h1
  rw [← h1, List.countP_eq_length, List.all_eq_true]
def kind (t : List Nat) : Nat := if D.allL t then 1 else if D.allD t then 2 else 0
theorem kind_any (s : ByteArray) (w : World) (hs : s.size ≤ 100) : Calls Try.prog 65 #[.string s] w fun e w' => e = .returned (.int .i64 (kind (D.ns s))) ∧ w = w' := by
  go_enter Try.func65, Try.ntmps65
  go_wp2
  go_loop [3, 4, 5] (fun a d i => ∃ k n m : Nat, k ≤ s.size ∧ a = .int .i64 n ∧ d = .int .i64 m ∧ i = .int .i64 k ∧ Cnt D.letB (D.ns s) k n ∧ Cnt D.digB (D.ns s) k m) (fun _ _ i => s.size - (intOf i).toNat)
  case atStart => exact ⟨0, 0, 0, Nat.zero_le _, rfl, rfl, rfl, cnt_first _ _, cnt_first _ _⟩
  case round =>
    obtain ⟨k, n, m, hk, rfl, rfl, rfl, hL, hD⟩ := hrel
    have hn := cnt_le hL
    have hm := cnt_le hD
    by_cases hlt : k < s.size
    · have hb := ns_at hlt
      obtain ⟨c, hc⟩ : ∃ c, s[k].toNat = c := ⟨_, rfl⟩
      have hclt := s[k].toNat_lt
      rw [hc] at hb hclt
      have HB := Lib.hid hb
      have HLc := Lib.hid hL
      have HDc := Lib.hid hD
      clear hb hL hD
      rcases cls (s[k].toNat) with ⟨h2, h3, h4, _, _⟩ | ⟨h1, h2, h3, h4, _, _⟩ | ⟨h1, h2, h3, h4, _, _⟩ | ⟨h1, h2, h3, h4, _, _⟩ | ⟨h1, h2, h3, h4, _, _⟩ | ⟨h1, h2, h3, h4, _, _⟩ | ⟨h1, h3, h4, _, _⟩
      all_goals
        have H3 := Lib.hid h3
        have H4 := Lib.hid h4
        have HC := Lib.hid hc
        clear h3 h4 hc
        go_wp2
        go_round
        case rel =>
          have e3 := H3.out
          have e4 := H4.out
          rw [HC.out] at e3 e4
          first
            | exact ⟨k + 1, n, m, by omega, rfl, rfl, by go_num, cnt_no HLc.out HB.out e3, cnt_no HDc.out HB.out e4⟩
            | exact ⟨k + 1, n + 1, m, by omega, by go_num, rfl, by go_num, cnt_yes HLc.out HB.out e3, cnt_no HDc.out HB.out e4⟩
            | exact ⟨k + 1, n, m + 1, by omega, rfl, by go_num, by go_num, cnt_no HLc.out HB.out e3, cnt_yes HDc.out HB.out e4⟩
        case measure => simp [intOf]; omega
    · have hz : (D.ns s).length ≤ k := by rw [D.ns_len]; omega
      have a1 := cnt_all hL hz
      have a2 := cnt_all hD hz
      rw [D.ns_len] at a1 a2
      by_cases e1 : n = s.size
      · have hkd : kind (D.ns s) = 1 := by unfold kind; rw [if_pos (show D.allL (D.ns s) = true from a1.1 e1)]
        have HK := Lib.hid hkd
        clear a1 a2 hkd hL hD
        subst e1
        go_wp2
        go_ret
        exact ⟨by rw [HK.out]; rfl, rfl⟩
      · have hna : ¬ D.allL (D.ns s) = true := fun h => e1 (a1.2 h)
        have n1 : ((n : Int) == (s.size : Int)) = false := by rw [beq_eq_false_iff_ne]; omega
        by_cases e2 : m = s.size
        · have hkd : kind (D.ns s) = 2 := by unfold kind; rw [if_neg hna, if_pos (show D.allD (D.ns s) = true from a2.1 e2)]
          have HK := Lib.hid hkd
          clear a1 a2 hkd hL hD e1 hna
          subst e2
          go_wp2
          go_ret
          exact ⟨by rw [HK.out]; rfl, rfl⟩
        · have hnd : ¬ D.allD (D.ns s) = true := fun h => e2 (a2.2 h)
          have n2 : ((m : Int) == (s.size : Int)) = false := by rw [beq_eq_false_iff_ne]; omega
          have hkd : kind (D.ns s) = 0 := by unfold kind; rw [if_neg hna, if_neg hnd]
          have HK := Lib.hid hkd
          clear a1 a2 hkd hL hD e1 e2 hna hnd
          go_wp2
          go_ret
          exact ⟨by rw [HK.out]; rfl, rfl⟩

theorem cut_any (s : ByteArray) (w : World) (hs : s.size ≤ 100) : Calls Try.prog 64 #[.string s] w fun e w' => e = .returned (.tuple #[.string (D.sb (D.cutP (D.ns s))), .string (D.sb (D.cutR (D.ns s))), .bool (D.cutM (D.ns s))]) ∧ ∃ q, w' = w.drewN q := by
  go_enter Try.func64, Try.ntmps64
  go_wp2
  go_loop [5] (fun i => ∃ k : Nat, k ≤ s.size ∧ i = .int .i64 k ∧ Kept (∀ j, j < k → (D.ns s)[j]? ≠ some 45)) (fun i => s.size - (intOf i).toNat)
  case atStart => exact ⟨0, Nat.zero_le _, rfl, ⟨fun j h => absurd h (by omega)⟩⟩
  case round =>
    obtain ⟨k, hk, rfl, HN⟩ := hrel
    by_cases hlt : k < s.size
    · have hb := ns_at hlt
      by_cases hc : s[k].toNat = 45
      · rw [hc] at hb
        obtain ⟨e1, e2, e3⟩ := D.cut_at hb HN.out
        have E1 : s.extract 0 k = D.sb (D.cutP (D.ns s)) := by rw [e1, ← ns_take, D.sb_ns]
        have E2 : s.extract (k + 1) s.size = D.sb (D.cutR (D.ns s)) := by rw [e2, ← ns_drop, D.sb_ns]
        have HE1 := Lib.hid E1
        have HE2 := Lib.hid E2
        have HE3 := Lib.hid e3
        have hc' : ((s[k].toNat : Int) == 45) = true := by rw [beq_iff_eq]; omega
        clear hb e1 e2 e3 E1 E2 hc HN
        have i1 : IntKind.i64.wrap ((k : Int) + 1) = (k : Int) + 1 := IntWalk.i64_in _ (by omega)
        have i2 : (k : Int) + 1 ≤ (s.size : Int) := by omega
        go_wp2_with fail
        go_quiet (fail)
        go_wp2
        refine bodyPost_ret (v := .tuple #[.string (s.extract 0 k), .string (s.extract (k + 1) s.size), .bool true]) (by simp [results, Try.results64, go_sem]) rfl ⟨?_, _, rfl⟩
        rw [HE1.out, HE2.out, HE3.out]
      · have hc' : ((s[k].toNat : Int) == 45) = false := by rw [beq_eq_false_iff_ne]; omega
        have HN' : Kept (∀ j, j < k + 1 → (D.ns s)[j]? ≠ some 45) := ⟨fun j hj h => by
          by_cases e : j = k
          · subst e; rw [hb] at h; injection h with h; exact hc h
          · exact HN.out j (by omega) h⟩
        clear hb hc HN
        go_wp2
        go_round
        case rel => exact ⟨k + 1, by omega, by go_num, HN'⟩
        case measure => simp [intOf]; omega
    · have hm : D.cutM (D.ns s) = false := D.cutM_no fun i hi => HN.out i (by rw [D.ns_len] at hi; omega)
      obtain ⟨e1, e2⟩ := D.cut_none _ hm
      have HE1 := Lib.hid e1
      have HE2 := Lib.hid e2
      have HE3 := Lib.hid hm
      clear e1 e2 hm HN
      go_wp2
      refine bodyPost_ret (v := .tuple #[.string s, .string ⟨#[]⟩, .bool false]) (by simp [results, Try.results64, go_sem]) rfl ⟨?_, 0, rfl⟩
      rw [HE1.out, HE2.out, HE3.out, D.sb_ns]
      rfl

theorem str_run (W : World) (A : Option Addr) (n c : Nat) (l : List Nat) (h : Row W A n (bys l)) (hl : ∀ b ∈ l, b < 256) :
    (convert 94 9 (.slice A n c)).run Try.prog W = .ok (.string (D.sb l)) W := by
  have hlen := h.len
  rw [bys_len] at hlen
  rcases A with _ | ad
  · have : l = [] := by
      rcases Nat.eq_zero_or_pos n with h0 | h0
      · exact List.eq_nil_of_length_eq_zero (by omega)
      · obtain ⟨ad, e, _⟩ := h.tow h0
        cases e
    subst this
    have : n = 0 := by simpa using hlen.symm
    subst this
    exact Lib.run_convert_nil_bytes W _ _ 5 c Try.underlying94 Try.underlying5 Try.underlying9
  · have hr := run_convert_bytes_back (P := Try.prog) W 94 9 5 ad c (l.map UInt8.ofNat) Try.underlying94 Try.underlying5 Try.underlying9 (fun j hj => by
      have hj' : j < l.length := by simpa using hj
      have hq : l[j]? = some l[j] := List.getElem?_eq_getElem hj'
      obtain ⟨ad', e, hc⟩ := h.cell (bys_at hq)
      injection e with e
      subst e
      rw [hc]
      have := hl _ (List.getElem_mem hj')
      simp
      omega)
    rw [List.length_map, hlen] at hr
    exact hr
theorem map_next {t : List Nat} {k c : Nat} (f : Nat → Nat) (h : t[k]? = some c) : (t.take (k + 1)).map f = (t.take k).map f ++ [f c] := by rw [take_next h, List.map_append]; rfl
theorem low_lt {l : List Nat} (h : ∀ b ∈ l, b < 256) : ∀ b ∈ D.low l, b < 256 := fun b hb => by
  obtain ⟨c, hc, rfl⟩ := List.mem_map.1 hb
  have := h c hc
  unfold D.lowB
  split <;> omega
theorem up_lt {l : List Nat} (h : ∀ b ∈ l, b < 256) : ∀ b ∈ D.up l, b < 256 := fun b hb => by
  obtain ⟨c, hc, rfl⟩ := List.mem_map.1 hb
  have := h c hc
  unfold D.upB
  split <;> omega
end Go.Proofs.Ytkhjnfplcaffnaa
set_option linter.unusedVariables false
set_option linter.unusedSimpArgs false
namespace Go.Proofs.Ytkhjnfplcaffnaa
open Go.RowKit
attribute [local go_sem ↓] Go.wp_at_zero Go.wp_at_succ

set_option maxRecDepth 100000 in
set_option maxHeartbeats 2000000 in
theorem turn_low (s : ByteArray) (w : World) (hs : s.size ≤ 100) : Calls Try.prog 66 #[.string s, .bool false] w fun e w' => e = .returned (.string (D.sb (D.low (D.ns s)))) ∧ Below w.heap.size w w' := by
  go_enter Try.func66, Try.ntmps66
  go_wp2
  go_loopw [5, 6] (fun o i wr => ∃ (k : Nat) (A : Option Addr) (cp : Nat), k ≤ s.size ∧ o = .slice A k cp ∧ i = .int .i64 k ∧ Own w.heap.size wr A k cp (((D.ns s).take k).map D.lowB) ∧ Below w.heap.size w wr) (fun _ i _ => s.size - (intOf i).toNat)
  case atStart => exact ⟨0, none, 0, Nat.zero_le _, rfl, rfl, Own.nil (Nat.le_refl _), Below.refl _ _⟩
  case round =>
    obtain ⟨k, A, cp, hk, rfl, rfl, HO, hbel⟩ := hrel
    by_cases hlt : k < s.size
    · have hb := ns_at hlt
      obtain ⟨c, hc⟩ : ∃ c, s[k].toNat = c := ⟨_, rfl⟩
      have hclt := s[k].toNat_lt
      have hclt' : (s[k].toNat : Int) < 256 := by omega
      have hb2 := map_next D.lowB hb
      have HB2 := Lib.hid hb2
      clear hb hb2
      rcases cls (s[k].toNat) with ⟨h2, _, _, h5, h6⟩ | ⟨h1, h2, _, _, h5, h6⟩ | ⟨h1, h2, _, _, h5, h6⟩ | ⟨h1, h2, _, _, h5, h6⟩ | ⟨h1, h2, _, _, h5, h6⟩ | ⟨h1, h2, _, _, h5, h6⟩ | ⟨h1, _, _, h5, h6⟩
      · have HV := Lib.hid h5
        clear h5 h6 hc
        go_wp2_with (at_builtin; refine app _ rfl (.tmp 40) (.tmp 42) rfl rfl (HO.alloc _) rfl (Own.lit (b := s[k].toNat) HO.base (by omega)).to_row (by omega) ?_; intro A1 c1 w1 ho1 hg1 hat1)
        go_roundw
        case rel => exact ⟨k + 1, A1, c1, by omega, rfl, by go_num, by rw [HB2.out, HV.out]; exact ho1, (hbel.alloc hbel.size _).grown hg1 (by have := hbel.size; simp; omega) HO.block_le⟩
        case measure => simp [intOf]; omega
      · have HV := Lib.hid h5
        clear h5 h6 hc
        go_wp2_with (at_builtin; refine app _ rfl (.tmp 40) (.tmp 42) rfl rfl (HO.alloc _) rfl (Own.lit (b := s[k].toNat) HO.base (by omega)).to_row (by omega) ?_; intro A1 c1 w1 ho1 hg1 hat1)
        go_roundw
        case rel => exact ⟨k + 1, A1, c1, by omega, rfl, by go_num, by rw [HB2.out, HV.out]; exact ho1, (hbel.alloc hbel.size _).grown hg1 (by have := hbel.size; simp; omega) HO.block_le⟩
        case measure => simp [intOf]; omega
      · have HV := Lib.hid h5
        clear h5 h6 hc
        go_wp2_with (at_builtin; refine app _ rfl (.tmp 40) (.tmp 42) rfl rfl (HO.alloc _) rfl (Own.lit (b := s[k].toNat) HO.base (by omega)).to_row (by omega) ?_; intro A1 c1 w1 ho1 hg1 hat1)
        go_roundw
        case rel => exact ⟨k + 1, A1, c1, by omega, rfl, by go_num, by rw [HB2.out, HV.out]; exact ho1, (hbel.alloc hbel.size _).grown hg1 (by have := hbel.size; simp; omega) HO.block_le⟩
        case measure => simp [intOf]; omega
      · have HV := Lib.hid h5
        clear h5 h6 hc
        have i1 : IntKind.u8.wrap ((s[k].toNat : Int) + 32) = (s[k].toNat : Int) + 32 := by rw [IntKind.wrap_u8]; omega
        have j1 : (96 : Int) < (s[k].toNat : Int) + 32 := by omega
        have j2 : (s[k].toNat : Int) + 32 < 123 := by omega
        go_wp2_with (at_builtin; refine app _ rfl (.tmp 40) (.tmp 42) rfl rfl (HO.alloc _) rfl (Own.lit (b := s[k].toNat + 32) HO.base (by omega)).to_row (by omega) ?_; intro A1 c1 w1 ho1 hg1 hat1)
        go_roundw
        case rel => exact ⟨k + 1, A1, c1, by omega, rfl, by go_num, by rw [HB2.out, HV.out]; exact ho1, (hbel.alloc hbel.size _).grown hg1 (by have := hbel.size; simp; omega) HO.block_le⟩
        case measure => simp [intOf]; omega
      · have HV := Lib.hid h5
        clear h5 h6 hc
        go_wp2_with (at_builtin; refine app _ rfl (.tmp 40) (.tmp 42) rfl rfl (HO.alloc _) rfl (Own.lit (b := s[k].toNat) HO.base (by omega)).to_row (by omega) ?_; intro A1 c1 w1 ho1 hg1 hat1)
        go_roundw
        case rel => exact ⟨k + 1, A1, c1, by omega, rfl, by go_num, by rw [HB2.out, HV.out]; exact ho1, (hbel.alloc hbel.size _).grown hg1 (by have := hbel.size; simp; omega) HO.block_le⟩
        case measure => simp [intOf]; omega
      · have HV := Lib.hid h5
        clear h5 h6 hc
        go_wp2_with (at_builtin; refine app _ rfl (.tmp 40) (.tmp 42) rfl rfl (HO.alloc _) rfl (Own.lit (b := s[k].toNat) HO.base (by omega)).to_row (by omega) ?_; intro A1 c1 w1 ho1 hg1 hat1)
        go_roundw
        case rel => exact ⟨k + 1, A1, c1, by omega, rfl, by go_num, by rw [HB2.out, HV.out]; exact ho1, (hbel.alloc hbel.size _).grown hg1 (by have := hbel.size; simp; omega) HO.block_le⟩
        case measure => simp [intOf]; omega
      · have HV := Lib.hid h5
        clear h5 h6 hc
        go_wp2_with (at_builtin; refine app _ rfl (.tmp 40) (.tmp 42) rfl rfl (HO.alloc _) rfl (Own.lit (b := s[k].toNat) HO.base (by omega)).to_row (by omega) ?_; intro A1 c1 w1 ho1 hg1 hat1)
        go_roundw
        case rel => exact ⟨k + 1, A1, c1, by omega, rfl, by go_num, by rw [HB2.out, HV.out]; exact ho1, (hbel.alloc hbel.size _).grown hg1 (by have := hbel.size; simp; omega) HO.block_le⟩
        case measure => simp [intOf]; omega
    · obtain rfl : k = s.size := by omega
      have HT : ((D.ns s).take s.size).map D.lowB = D.low (D.ns s) := by rw [List.take_of_length_le (by rw [D.ns_len]; omega)]; rfl
      rw [HT] at HO
      have hst := str_run wr A s.size cp _ HO.to_row (low_lt (D.ns_lt s))
      clear HT
      go_wp2
      go_ret
      exact ⟨rfl, hbel⟩
set_option maxRecDepth 100000 in
set_option maxHeartbeats 2000000 in
theorem turn_up (s : ByteArray) (w : World) (hs : s.size ≤ 100) : Calls Try.prog 66 #[.string s, .bool true] w fun e w' => e = .returned (.string (D.sb (D.up (D.ns s)))) ∧ Below w.heap.size w w' := by
  go_enter Try.func66, Try.ntmps66
  go_wp2
  go_loopw [5, 6] (fun o i wr => ∃ (k : Nat) (A : Option Addr) (cp : Nat), k ≤ s.size ∧ o = .slice A k cp ∧ i = .int .i64 k ∧ Own w.heap.size wr A k cp (((D.ns s).take k).map D.upB) ∧ Below w.heap.size w wr) (fun _ i _ => s.size - (intOf i).toNat)
  case atStart => exact ⟨0, none, 0, Nat.zero_le _, rfl, rfl, Own.nil (Nat.le_refl _), Below.refl _ _⟩
  case round =>
    obtain ⟨k, A, cp, hk, rfl, rfl, HO, hbel⟩ := hrel
    by_cases hlt : k < s.size
    · have hb := ns_at hlt
      obtain ⟨c, hc⟩ : ∃ c, s[k].toNat = c := ⟨_, rfl⟩
      have hclt := s[k].toNat_lt
      have hclt' : (s[k].toNat : Int) < 256 := by omega
      have hb2 := map_next D.upB hb
      have HB2 := Lib.hid hb2
      clear hb hb2
      rcases cls (s[k].toNat) with ⟨h2, _, _, h5, h6⟩ | ⟨h1, h2, _, _, h5, h6⟩ | ⟨h1, h2, _, _, h5, h6⟩ | ⟨h1, h2, _, _, h5, h6⟩ | ⟨h1, h2, _, _, h5, h6⟩ | ⟨h1, h2, _, _, h5, h6⟩ | ⟨h1, _, _, h5, h6⟩
      · have HV := Lib.hid h6
        clear h5 h6 hc
        go_wp2_with (at_builtin; refine app _ rfl (.tmp 40) (.tmp 42) rfl rfl (HO.alloc _) rfl (Own.lit (b := s[k].toNat) HO.base (by omega)).to_row (by omega) ?_; intro A1 c1 w1 ho1 hg1 hat1)
        go_roundw
        case rel => exact ⟨k + 1, A1, c1, by omega, rfl, by go_num, by rw [HB2.out, HV.out]; exact ho1, (hbel.alloc hbel.size _).grown hg1 (by have := hbel.size; simp; omega) HO.block_le⟩
        case measure => simp [intOf]; omega
      · have HV := Lib.hid h6
        clear h5 h6 hc
        go_wp2_with (at_builtin; refine app _ rfl (.tmp 40) (.tmp 42) rfl rfl (HO.alloc _) rfl (Own.lit (b := s[k].toNat) HO.base (by omega)).to_row (by omega) ?_; intro A1 c1 w1 ho1 hg1 hat1)
        go_roundw
        case rel => exact ⟨k + 1, A1, c1, by omega, rfl, by go_num, by rw [HB2.out, HV.out]; exact ho1, (hbel.alloc hbel.size _).grown hg1 (by have := hbel.size; simp; omega) HO.block_le⟩
        case measure => simp [intOf]; omega
      · have HV := Lib.hid h6
        clear h5 h6 hc
        go_wp2_with (at_builtin; refine app _ rfl (.tmp 40) (.tmp 42) rfl rfl (HO.alloc _) rfl (Own.lit (b := s[k].toNat) HO.base (by omega)).to_row (by omega) ?_; intro A1 c1 w1 ho1 hg1 hat1)
        go_roundw
        case rel => exact ⟨k + 1, A1, c1, by omega, rfl, by go_num, by rw [HB2.out, HV.out]; exact ho1, (hbel.alloc hbel.size _).grown hg1 (by have := hbel.size; simp; omega) HO.block_le⟩
        case measure => simp [intOf]; omega
      · have HV := Lib.hid h6
        clear h5 h6 hc
        go_wp2_with (at_builtin; refine app _ rfl (.tmp 40) (.tmp 42) rfl rfl (HO.alloc _) rfl (Own.lit (b := s[k].toNat) HO.base (by omega)).to_row (by omega) ?_; intro A1 c1 w1 ho1 hg1 hat1)
        go_roundw
        case rel => exact ⟨k + 1, A1, c1, by omega, rfl, by go_num, by rw [HB2.out, HV.out]; exact ho1, (hbel.alloc hbel.size _).grown hg1 (by have := hbel.size; simp; omega) HO.block_le⟩
        case measure => simp [intOf]; omega
      · have HV := Lib.hid h6
        clear h5 h6 hc
        go_wp2_with (at_builtin; refine app _ rfl (.tmp 40) (.tmp 42) rfl rfl (HO.alloc _) rfl (Own.lit (b := s[k].toNat) HO.base (by omega)).to_row (by omega) ?_; intro A1 c1 w1 ho1 hg1 hat1)
        go_roundw
        case rel => exact ⟨k + 1, A1, c1, by omega, rfl, by go_num, by rw [HB2.out, HV.out]; exact ho1, (hbel.alloc hbel.size _).grown hg1 (by have := hbel.size; simp; omega) HO.block_le⟩
        case measure => simp [intOf]; omega
      · have HV := Lib.hid h6
        clear h5 h6 hc
        have i1 : IntKind.u8.wrap ((s[k].toNat : Int) - 32) = (s[k].toNat : Int) - 32 := by rw [IntKind.wrap_u8]; omega
        go_wp2_with (at_builtin; refine app _ rfl (.tmp 40) (.tmp 42) rfl rfl (HO.alloc _) rfl (Own.lit (b := s[k].toNat - 32) HO.base (by omega)).to_row (by omega) ?_; intro A1 c1 w1 ho1 hg1 hat1)
        go_roundw
        case rel => exact ⟨k + 1, A1, c1, by omega, rfl, by go_num, by rw [HB2.out, HV.out]; exact ho1, (hbel.alloc hbel.size _).grown hg1 (by have := hbel.size; simp; omega) HO.block_le⟩
        case measure => simp [intOf]; omega
      · have HV := Lib.hid h6
        clear h5 h6 hc
        go_wp2_with (at_builtin; refine app _ rfl (.tmp 40) (.tmp 42) rfl rfl (HO.alloc _) rfl (Own.lit (b := s[k].toNat) HO.base (by omega)).to_row (by omega) ?_; intro A1 c1 w1 ho1 hg1 hat1)
        go_roundw
        case rel => exact ⟨k + 1, A1, c1, by omega, rfl, by go_num, by rw [HB2.out, HV.out]; exact ho1, (hbel.alloc hbel.size _).grown hg1 (by have := hbel.size; simp; omega) HO.block_le⟩
        case measure => simp [intOf]; omega
    · obtain rfl : k = s.size := by omega
      have HT : ((D.ns s).take s.size).map D.upB = D.up (D.ns s) := by rw [List.take_of_length_le (by rw [D.ns_len]; omega)]; rfl
      rw [HT] at HO
      have hst := str_run wr A s.size cp _ HO.to_row (up_lt (D.ns_lt s))
      clear HT
      go_wp2
      go_ret
      exact ⟨rfl, hbel⟩
end Go.Proofs.Ytkhjnfplcaffnaa
