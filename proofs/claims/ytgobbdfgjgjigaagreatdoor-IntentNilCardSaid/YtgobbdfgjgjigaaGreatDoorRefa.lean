/-
  The document's kind, turn and cut.
-/
import Derived.Test.YtgobbdfgjgjigaaGreatDoorShf
import Derived.Deep.QuietTactic
import Derived.BigQuiet
import Derived.IntWalk
import Derived.Laws.BytesString
import Derived.Lib.BufferRead
set_option linter.unusedVariables false
set_option linter.unusedSimpArgs false
namespace Go.Proofs.YtgobbdfgjgjigaaGreatDoor
open Go.RowKit
attribute [local go_sem ↓] Go.wp_at_zero Go.wp_at_succ

/-- So many so far. -/
structure Cnt (f : Nat → Bool) (t : List Nat) (k n : Nat) : Prop where
  out : (t.take k).countP f = n
def kind (t : List Nat) : Nat := if D.allL t then 1 else if D.allD t then 2 else 0
theorem cut_any (s : ByteArray) (w : World) (hs : s.size ≤ 100) : Calls Tryz.prog 92 #[.string s] w fun e w' => e = .returned (.tuple #[.string (D.sb (D.cutP (D.ns s))), .string (D.sb (D.cutR (D.ns s))), .bool (D.cutM (D.ns s))]) ∧ ∃ q, w' = w.drewN q := by
  go_enter Tryz.func92, Tryz.ntmps92
  go_wp2
  go_loop [5] (fun i => ∃ k : Nat, k ≤ s.size ∧ i = .int .i64 k ∧ Kept (∀ j, j < k → (D.ns s)[j]? ≠ some 45)) (fun i => s.size - (intOf i).toNat)
  case atStart => exact ⟨0, Nat.zero_le _, rfl, ⟨fun j h => absurd h (by omega)⟩⟩
  case round =>
    obtain ⟨k, hk, rfl, HN⟩ := hrel
    by_cases hlt : k < s.size
    · have hb := ns_at hlt
      by_cases hc : s[k].toNat = 45
      · rw [hc] at hb
        obtain ⟨e1, e2, e3⟩ := D.cut_at hb HN.out
        have E1 : s.extract 0 k = D.sb (D.cutP (D.ns s)) := by rw [e1, ← ns_take, D.sb_ns]
        have E2 : s.extract (k + 1) s.size = D.sb (D.cutR (D.ns s)) := by rw [e2, ← ns_drop, D.sb_ns]
        have HE1 := Lib.hid E1
        have HE2 := Lib.hid E2
        have HE3 := Lib.hid e3
        have hc' : ((s[k].toNat : Int) == 45) = true := by rw [beq_iff_eq]; omega
        clear hb e1 e2 e3 E1 E2 hc HN
        have i1 : IntKind.i64.wrap ((k : Int) + 1) = (k : Int) + 1 := IntWalk.i64_in _ (by omega)
        have i2 : (k : Int) + 1 ≤ (s.size : Int) := by omega
        go_wp2_with fail
        go_quiet (fail)
        go_wp2
        refine bodyPost_ret (v := .tuple #[.string (s.extract 0 k), .string (s.extract (k + 1) s.size), .bool true]) (by simp [results, Tryz.results92, go_sem]) rfl ⟨?_, _, rfl⟩
        rw [HE1.out, HE2.out, HE3.out]
      · have hc' : ((s[k].toNat : Int) == 45) = false := by rw [beq_eq_false_iff_ne]; omega
        have HN' : Kept (∀ j, j < k + 1 → (D.ns s)[j]? ≠ some 45) := ⟨fun j hj h => by
          by_cases e : j = k
          · subst e; rw [hb] at h; injection h with h; exact hc h
          · exact HN.out j (by omega) h⟩
        clear hb hc HN
        go_wp2
        go_round
        case rel => exact ⟨k + 1, by omega, by go_num, HN'⟩
        case measure => simp [intOf]; omega
    · have hm : D.cutM (D.ns s) = false := D.cutM_no fun i hi => HN.out i (by rw [D.ns_len] at hi; omega)
      obtain ⟨e1, e2⟩ := D.cut_none _ hm
      have HE1 := Lib.hid e1
      have HE2 := Lib.hid e2
      have HE3 := Lib.hid hm
      clear e1 e2 hm HN
      go_wp2
      refine bodyPost_ret (v := .tuple #[.string s, .string ⟨#[]⟩, .bool false]) (by simp [results, Tryz.results92, go_sem]) rfl ⟨?_, 0, rfl⟩
      rw [HE1.out, HE2.out, HE3.out, D.sb_ns]
      rfl

theorem str_run (W : World) (A : Option Addr) (n c : Nat) (l : List Nat) (h : Row W A n (bys l)) (hl : ∀ b ∈ l, b < 256) :
    (convert 88 9 (.slice A n c)).run Tryz.prog W = .ok (.string (D.sb l)) W := by
  have hlen := h.len
  rw [bys_len] at hlen
  rcases A with _ | ad
  · have : l = [] := by
      rcases Nat.eq_zero_or_pos n with h0 | h0
      · exact List.eq_nil_of_length_eq_zero (by omega)
      · obtain ⟨ad, e, _⟩ := h.tow h0
        cases e
    subst this
    have : n = 0 := by simpa using hlen.symm
    subst this
    exact Lib.run_convert_nil_bytes W _ _ 5 c Tryz.underlying88 Tryz.underlying5 Tryz.underlying9
  · have hr := run_convert_bytes_back (P := Tryz.prog) W 88 9 5 ad c (l.map UInt8.ofNat) Tryz.underlying88 Tryz.underlying5 Tryz.underlying9 (fun j hj => by
      have hj' : j < l.length := by simpa using hj
      have hq : l[j]? = some l[j] := List.getElem?_eq_getElem hj'
      obtain ⟨ad', e, hc⟩ := h.cell (bys_at hq)
      injection e with e
      subst e
      rw [hc]
      have := hl _ (List.getElem_mem hj')
      simp
      omega)
    rw [List.length_map, hlen] at hr
    exact hr
end Go.Proofs.YtgobbdfgjgjigaaGreatDoor
