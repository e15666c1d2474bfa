/-
  The document's kind, turn and cut.
  A drawn region walked by hand: the steps.
  The document's pad and front.
-/
import Derived.Test.YtpiajeonnhfanaaDoorGk
import Derived.Deep.QuietTactic
import Derived.BigQuiet
import Derived.IntWalk
import Derived.Laws.BytesString
import Derived.Lib.BufferRead
import Derived.Deep.RegionHeld3
set_option linter.unusedVariables false
set_option linter.unusedSimpArgs false
namespace Go.Proofs.YtpiajeonnhfanaaDoor
open Go.RowKit
attribute [local go_sem ↓] Go.wp_at_zero Go.wp_at_succ

/-- The kinds of bytes. -/
theorem cls (c : Nat) : (c ≤ 47 ∧ D.letB c = false ∧ D.digB c = false ∧ D.lowB c = c ∧ D.upB c = c) ∨ (48 ≤ c ∧ c ≤ 57 ∧ D.letB c = false ∧ D.digB c = true ∧ D.lowB c = c ∧ D.upB c = c) ∨ (58 ≤ c ∧ c ≤ 64 ∧ D.letB c = false ∧ D.digB c = false ∧ D.lowB c = c ∧ D.upB c = c) ∨ (65 ≤ c ∧ c ≤ 90 ∧ D.letB c = true ∧ D.digB c = false ∧ D.lowB c = c + 32 ∧ D.upB c = c) ∨ (91 ≤ c ∧ c ≤ 96 ∧ D.letB c = false ∧ D.digB c = false ∧ D.lowB c = c ∧ D.upB c = c) ∨ (97 ≤ c ∧ c ≤ 122 ∧ D.letB c = true ∧ D.digB c = false ∧ D.lowB c = c ∧ D.upB c = c - 32) ∨ (123 ≤ c ∧ D.letB c = false ∧ D.digB c = false ∧ D.lowB c = c ∧ D.upB c = c) := by
  have hl : ∀ b, (D.letB c = b) = (decide ((97 ≤ c ∧ c ≤ 122) ∨ (65 ≤ c ∧ c ≤ 90)) = b) := fun b => rfl
  have hd : ∀ b, (D.digB c = b) = (decide (48 ≤ c ∧ c ≤ 57) = b) := fun b => rfl
  simp only [hl, hd, D.lowB, D.upB, decide_eq_true_eq, decide_eq_false_iff_not]
  by_cases h1 : c ≤ 47
  · exact .inl ⟨h1, by omega, by omega, by rw [if_neg (by omega)], by rw [if_neg (by omega)]⟩
  by_cases h2 : c ≤ 57
  · exact .inr (.inl ⟨by omega, h2, by omega, by omega, by rw [if_neg (by omega)], by rw [if_neg (by omega)]⟩)
  by_cases h3 : c ≤ 64
  · exact .inr (.inr (.inl ⟨by omega, h3, by omega, by omega, by rw [if_neg (by omega)], by rw [if_neg (by omega)]⟩))
  by_cases h4 : c ≤ 90
  · exact .inr (.inr (.inr (.inl ⟨by omega, h4, by omega, by omega, by rw [if_pos (by omega)], by rw [if_neg (by omega)]⟩)))
  by_cases h5 : c ≤ 96
  · exact .inr (.inr (.inr (.inr (.inl ⟨by omega, h5, by omega, by omega, by rw [if_neg (by omega)], by rw [if_neg (by omega)]⟩))))
  by_cases h6 : c ≤ 122
  · exact .inr (.inr (.inr (.inr (.inr (.inl ⟨by omega, h6, by omega, by omega, by rw [if_neg (by omega)], by rw [if_pos (by omega)]⟩)))))
  · exact .inr (.inr (.inr (.inr (.inr (.inr ⟨by omega, by omega, by omega, by rw [if_neg (by omega)], by rw [if_neg (by omega)]⟩)))))

/-- So many so far. -/
structure Cnt (f : Nat → Bool) (t : List Nat) (k n : Nat) : Prop where
  out : (t.take k).countP f = n
theorem cnt_first (f : Nat → Bool) (t : List Nat) : Cnt f t 0 0 := ⟨rfl⟩
theorem cnt_yes {f : Nat → Bool} {t : List Nat} {k n c : Nat} (h : Cnt f t k n) (hc : t[k]? = some c) (hf : f c = true) : Cnt f t (k + 1) (n + 1) := ⟨by rw [take_next hc, List.countP_append, h.out]; simp [hf]⟩
theorem cnt_no {f : Nat → Bool} {t : List Nat} {k n c : Nat} (h : Cnt f t k n) (hc : t[k]? = some c) (hf : f c = false) : Cnt f t (k + 1) n := ⟨by rw [take_next hc, List.countP_append, h.out]; simp [hf]⟩
theorem cnt_le {f : Nat → Bool} {t : List Nat} {k n : Nat} (h : Cnt f t k n) : n ≤ k := by
  have h1 := h.out
  have h2 := List.countP_le_length (p := f) (l := t.take k)
  have h3 := List.length_take_le k t
  omega
theorem cnt_all {f : Nat → Bool} {t : List Nat} {k n : Nat} (h : Cnt f t k n) (hk : t.length ≤ k) : (n = t.length) ↔ t.all f = true := by
  have h1 := h.out
  rw [List.take_of_length_le hk] at h1
  rw [← h1, List.countP_eq_length, List.all_eq_true]
def kind (t : List Nat) : Nat := if D.allL t then 1 else if D.allD t then 2 else 0
theorem kind_any (s : ByteArray) (w : World) (hs : s.size ≤ 100) : Calls Tryd.prog 39 #[.string s] w fun e w' => e = .returned (.int .i64 (kind (D.ns s))) ∧ w = w' := by
  go_enter Tryd.func39, Tryd.ntmps39
  go_wp2
  go_loop [3, 4, 5] (fun a d i => ∃ k n m : Nat, k ≤ s.size ∧ a = .int .i64 n ∧ d = .int .i64 m ∧ i = .int .i64 k ∧ Cnt D.letB (D.ns s) k n ∧ Cnt D.digB (D.ns s) k m) (fun _ _ i => s.size - (intOf i).toNat)
  case atStart => exact ⟨0, 0, 0, Nat.zero_le _, rfl, rfl, rfl, cnt_first _ _, cnt_first _ _⟩
  case round =>
    obtain ⟨k, n, m, hk, rfl, rfl, rfl, hL, hD⟩ := hrel
    have hn := cnt_le hL
    have hm := cnt_le hD
    by_cases hlt : k < s.size
    · have hb := ns_at hlt
      obtain ⟨c, hc⟩ : ∃ c, s[k].toNat = c := ⟨_, rfl⟩
      have hclt := s[k].toNat_lt
      rw [hc] at hb hclt
      have HB := Lib.hid hb
      have HLc := Lib.hid hL
      have HDc := Lib.hid hD
      clear hb hL hD
      rcases cls (s[k].toNat) with ⟨h2, h3, h4, _, _⟩ | ⟨h1, h2, h3, h4, _, _⟩ | ⟨h1, h2, h3, h4, _, _⟩ | ⟨h1, h2, h3, h4, _, _⟩ | ⟨h1, h2, h3, h4, _, _⟩ | ⟨h1, h2, h3, h4, _, _⟩ | ⟨h1, h3, h4, _, _⟩
      all_goals
        have H3 := Lib.hid h3
        have H4 := Lib.hid h4
        have HC := Lib.hid hc
        clear h3 h4 hc
        go_wp2
        go_round
        case rel =>
          have e3 := H3.out
          have e4 := H4.out
          rw [HC.out] at e3 e4
          first
            | exact ⟨k + 1, n, m, by omega, rfl, rfl, by go_num, cnt_no HLc.out HB.out e3, cnt_no HDc.out HB.out e4⟩
            | exact ⟨k + 1, n + 1, m, by omega, by go_num, rfl, by go_num, cnt_yes HLc.out HB.out e3, cnt_no HDc.out HB.out e4⟩
            | exact ⟨k + 1, n, m + 1, by omega, rfl, by go_num, by go_num, cnt_no HLc.out HB.out e3, cnt_yes HDc.out HB.out e4⟩
        case measure => simp [intOf]; omega
    · have hz : (D.ns s).length ≤ k := by rw [D.ns_len]; omega
      have a1 := cnt_all hL hz
      have a2 := cnt_all hD hz
      rw [D.ns_len] at a1 a2
      by_cases e1 : n = s.size
      · have hkd : kind (D.ns s) = 1 := by unfold kind; rw [if_pos (show D.allL (D.ns s) = true from a1.1 e1)]
        have HK := Lib.hid hkd
        clear a1 a2 hkd hL hD
        subst e1
        go_wp2
        go_ret
        exact ⟨by rw [HK.out]; rfl, rfl⟩
      · have hna : ¬ D.allL (D.ns s) = true := fun h => e1 (a1.2 h)
        have n1 : ((n : Int) == (s.size : Int)) = false := by rw [beq_eq_false_iff_ne]; omega
        by_cases e2 : m = s.size
        · have hkd : kind (D.ns s) = 2 := by unfold kind; rw [if_neg hna, if_pos (show D.allD (D.ns s) = true from a2.1 e2)]
          have HK := Lib.hid hkd
          clear a1 a2 hkd hL hD e1 hna
          subst e2
          go_wp2
          go_ret
          exact ⟨by rw [HK.out]; rfl, rfl⟩
        · have hnd : ¬ D.allD (D.ns s) = true := fun h => e2 (a2.2 h)
          have n2 : ((m : Int) == (s.size : Int)) = false := by rw [beq_eq_false_iff_ne]; omega
          have hkd : kind (D.ns s) = 0 := by unfold kind; rw [if_neg hna, if_neg hnd]
          have HK := Lib.hid hkd
          clear a1 a2 hkd hL hD e1 e2 hna hnd
          go_wp2
          go_ret
          exact ⟨by rw [HK.out]; rfl, rfl⟩

theorem cut_any (s : ByteArray) (w : World) (hs : s.size ≤ 100) : Calls Tryd.prog 38 #[.string s] w fun e w' => e = .returned (.tuple #[.string (D.sb (D.cutP (D.ns s))), .string (D.sb (D.cutR (D.ns s))), .bool (D.cutM (D.ns s))]) ∧ ∃ q, w' = w.drewN q := by
  go_enter Tryd.func38, Tryd.ntmps38
  go_wp2
  go_loop [5] (fun i => ∃ k : Nat, k ≤ s.size ∧ i = .int .i64 k ∧ Kept (∀ j, j < k → (D.ns s)[j]? ≠ some 45)) (fun i => s.size - (intOf i).toNat)
  case atStart => exact ⟨0, Nat.zero_le _, rfl, ⟨fun j h => absurd h (by omega)⟩⟩
  case round =>
    obtain ⟨k, hk, rfl, HN⟩ := hrel
    by_cases hlt : k < s.size
    · have hb := ns_at hlt
      by_cases hc : s[k].toNat = 45
      · rw [hc] at hb
        obtain ⟨e1, e2, e3⟩ := D.cut_at hb HN.out
        have E1 : s.extract 0 k = D.sb (D.cutP (D.ns s)) := by rw [e1, ← ns_take, D.sb_ns]
        have E2 : s.extract (k + 1) s.size = D.sb (D.cutR (D.ns s)) := by rw [e2, ← ns_drop, D.sb_ns]
        have HE1 := Lib.hid E1
        have HE2 := Lib.hid E2
        have HE3 := Lib.hid e3
        have hc' : ((s[k].toNat : Int) == 45) = true := by rw [beq_iff_eq]; omega
        clear hb e1 e2 e3 E1 E2 hc HN
        have i1 : IntKind.i64.wrap ((k : Int) + 1) = (k : Int) + 1 := IntWalk.i64_in _ (by omega)
        have i2 : (k : Int) + 1 ≤ (s.size : Int) := by omega
        go_wp2_with fail
        go_quiet (fail)
        go_wp2
        refine bodyPost_ret (v := .tuple #[.string (s.extract 0 k), .string (s.extract (k + 1) s.size), .bool true]) (by simp [results, Tryd.results38, go_sem]) rfl ⟨?_, _, rfl⟩
        rw [HE1.out, HE2.out, HE3.out]
      · have hc' : ((s[k].toNat : Int) == 45) = false := by rw [beq_eq_false_iff_ne]; omega
        have HN' : Kept (∀ j, j < k + 1 → (D.ns s)[j]? ≠ some 45) := ⟨fun j hj h => by
          by_cases e : j = k
          · subst e; rw [hb] at h; injection h with h; exact hc h
          · exact HN.out j (by omega) h⟩
        clear hb hc HN
        go_wp2
        go_round
        case rel => exact ⟨k + 1, by omega, by go_num, HN'⟩
        case measure => simp [intOf]; omega
    · have hm : D.cutM (D.ns s) = false := D.cutM_no fun i hi => HN.out i (by rw [D.ns_len] at hi; omega)
      obtain ⟨e1, e2⟩ := D.cut_none _ hm
      have HE1 := Lib.hid e1
      have HE2 := Lib.hid e2
      have HE3 := Lib.hid hm
      clear e1 e2 hm HN
      go_wp2
      refine bodyPost_ret (v := .tuple #[.string s, .string ⟨#[]⟩, .bool false]) (by simp [results, Tryd.results38, go_sem]) rfl ⟨?_, 0, rfl⟩
      rw [HE1.out, HE2.out, HE3.out, D.sb_ns]
      rfl

theorem str_run (W : World) (A : Option Addr) (n c : Nat) (l : List Nat) (h : Row W A n (bys l)) (hl : ∀ b ∈ l, b < 256) :
    (convert 74 9 (.slice A n c)).run Tryd.prog W = .ok (.string (D.sb l)) W := by
  have hlen := h.len
  rw [bys_len] at hlen
  rcases A with _ | ad
  · have : l = [] := by
      rcases Nat.eq_zero_or_pos n with h0 | h0
      · exact List.eq_nil_of_length_eq_zero (by omega)
      · obtain ⟨ad, e, _⟩ := h.to h0
        cases e
    subst this
    have : n = 0 := by simpa using hlen.symm
    subst this
    exact Lib.run_convert_nil_bytes W _ _ 5 c Tryd.underlying74 Tryd.underlying5 Tryd.underlying9
  · have hr := run_convert_bytes_back (P := Tryd.prog) W 74 9 5 ad c (l.map UInt8.ofNat) Tryd.underlying74 Tryd.underlying5 Tryd.underlying9 (fun j hj => by
      have hj' : j < l.length := by simpa using hj
      have hq : l[j]? = some l[j] := List.getElem?_eq_getElem hj'
      obtain ⟨ad', e, hc⟩ := h.cell (bys_at hq)
      injection e with e
      subst e
      rw [hc]
      have := hl _ (List.getElem_mem hj')
      simp
      omega)
    rw [List.length_map, hlen] at hr
    exact hr
theorem map_next {t : List Nat} {k c : Nat} (f : Nat → Nat) (h : t[k]? = some c) : (t.take (k + 1)).map f = (t.take k).map f ++ [f c] := by rw [take_next h, List.map_append]; rfl
theorem low_lt {l : List Nat} (h : ∀ b ∈ l, b < 256) : ∀ b ∈ D.low l, b < 256 := fun b hb => by
  obtain ⟨c, hc, rfl⟩ := List.mem_map.1 hb
  have := h c hc
  unfold D.lowB
  split <;> omega
theorem up_lt {l : List Nat} (h : ∀ b ∈ l, b < 256) : ∀ b ∈ D.up l, b < 256 := fun b hb => by
  obtain ⟨c, hc, rfl⟩ := List.mem_map.1 hb
  have := h c hc
  unfold D.upB
  split <;> omega
end Go.Proofs.YtpiajeonnhfanaaDoor
set_option linter.unusedVariables false
set_option linter.unusedSimpArgs false
namespace Go.Proofs.YtpiajeonnhfanaaDoor
open Go.RowKit
section
variable {P : Program} {ops : Array Oper} {Q : Exit → Act → World → Prop} {md : Region.Mode} {S : World → Prop}
/-- Number i only computes, or reads what S tells. -/
theorem takeS (i : Nat) (d : Option Tmp) (v : Value) {fuel : Nat} {listed : Array Bool} {a : Act} {w : World} (hd : (ops[i]?).map (·.dst) = some d)
    (hs : Region.noSelect ops = true) (hf : Region.free md ops listed i = true) (hr : (Region.ready md ops listed).contains i = true)
    (hQ : ∀ c a w, Q (.panic c) (a.put d v) w → Q (.panic c) a w) (hw : (ops[i]?).map (fun o => Region.wanted o (yielded ops a.tmps)) = some true)
    (hy : ∀ o, ops[i]? = some o → ∀ w, S w → (execOp a.eval o).run P w = .ok (.value v) w) (hS : S w)
    (h : wpAnyH P md ops Q S fuel (listed.setIfInBounds i true) (a.put d v) w) : wpAnyH P md ops Q S (fuel + 1) listed a w := by
  cases ho : ops[i]? with
  | none => rw [ho] at hd; cases hd
  | some o =>
    rw [ho] at hd hw
    simp only [Option.map_some, Option.some.injEq] at hd hw
    subst hd
    exact wpAnyH_take ho hs hf hr hQ (.inl ⟨hw, fun w hS => hy o ho w hS⟩) hS h
/-- Number i is the only one that may come up. -/
theorem nextS (i : Nat) {fuel : Nat} {listed : Array Bool} {a : Act} {w : World} (hr : Region.ready md ops listed = [i])
    (hw : (ops[i]?).map (fun o => Region.wanted o (yielded ops a.tmps)) = some true)
    (h : ∀ o, ops[i]? = some o → ∀ K : Act → World → Prop, Shut (∀ a w, S w → (S w → wpAnyH P md ops Q S fuel (listed.setIfInBounds i true) a w) → K a w) → Oper.wp P o a w K Q) : wpAnyH P md ops Q S (fuel + 1) listed a w := by
  cases ho : ops[i]? with
  | none => rw [ho] at hw; cases hw
  | some o =>
    rw [ho] at hw
    simp only [Option.map_some, Option.some.injEq] at hw
    refine wpAnyH_ready hr (by simp) (AllReadyH.cons ho (fun K hK => ?_) AllReadyH.nil)
    rw [if_pos hw]
    exact h o ho K hK
/-- Two may come up. -/
theorem forkS (i j : Nat) {fuel : Nat} {listed : Array Bool} {a : Act} {w : World} (hr : Region.ready md ops listed = [i, j])
    (hwi : (ops[i]?).map (fun o => Region.wanted o (yielded ops a.tmps)) = some true) (hwj : (ops[j]?).map (fun o => Region.wanted o (yielded ops a.tmps)) = some true)
    (hi : ∀ o, ops[i]? = some o → ∀ K : Act → World → Prop, Shut (∀ a w, S w → (S w → wpAnyH P md ops Q S fuel (listed.setIfInBounds i true) a w) → K a w) → Oper.wp P o a w K Q)
    (hj : ∀ o, ops[j]? = some o → ∀ K : Act → World → Prop, Shut (∀ a w, S w → (S w → wpAnyH P md ops Q S fuel (listed.setIfInBounds j true) a w) → K a w) → Oper.wp P o a w K Q) : wpAnyH P md ops Q S (fuel + 1) listed a w := by
  cases ho : ops[i]? with
  | none => rw [ho] at hwi; cases hwi
  | some o =>
    cases hp : ops[j]? with
    | none => rw [hp] at hwj; cases hwj
    | some p =>
      rw [ho] at hwi
      rw [hp] at hwj
      simp only [Option.map_some, Option.some.injEq] at hwi hwj
      refine wpAnyH_ready hr (by simp) (AllReadyH.cons ho (fun K hK => ?_) (AllReadyH.cons hp (fun K hK => ?_) AllReadyH.nil))
      · rw [if_pos hwi]
        exact hi o ho K hK
      · rw [if_pos hwj]
        exact hj p hp K hK
end
end Go.Proofs.YtpiajeonnhfanaaDoor
set_option linter.unusedVariables false
set_option linter.unusedSimpArgs false
namespace Go.Proofs.YtpiajeonnhfanaaDoor
open Go.RowKit
attribute [local go_sem ↓] Go.wp_at_zero Go.wp_at_succ

def pk (l : List Nat) (k n : Nat) : Array Value := (bys (D.padn (l.take k) n)).toArray
theorem pk_size (l : List Nat) (k n : Nat) : (pk l k n).size = n := by simp [pk, bys_len, D.padn_len]
theorem padn_get (l : List Nat) (n j : Nat) : (D.padn l n)[j]? = if j < n then some ((l[j]?).getD 0) else none := by
  unfold D.padn
  rw [List.getElem?_take]
  by_cases hj : j < n
  · rw [if_pos hj, if_pos hj]
    by_cases hl : j < l.length
    · rw [List.getElem?_append_left hl, List.getElem?_eq_getElem hl]; rfl
    · rw [List.getElem?_append_right (by omega), List.getElem?_eq_none (l := l) (by omega), List.getElem?_replicate, if_pos (by omega)]; rfl
  · rw [if_neg hj, if_neg hj]
theorem padn_next {l : List Nat} {k b n : Nat} (hb : l[k]? = some b) (hk : k < n) : D.padn (l.take (k + 1)) n = (D.padn (l.take k) n).set k b := by
  apply List.ext_getElem?
  intro j
  rw [List.getElem?_set, D.padn_len, padn_get, padn_get, List.getElem?_take, List.getElem?_take]
  by_cases e : k = j
  · subst e
    rw [if_pos hk, if_pos (by omega), hb, if_pos rfl, if_pos hk]; rfl
  · rw [if_neg e]
    by_cases h1 : j < k
    · rw [if_pos (show j < k + 1 by omega), if_pos h1]
    · rw [if_neg (show ¬ j < k + 1 by omega), if_neg h1]
theorem pk_next {l : List Nat} {k b n : Nat} (hb : l[k]? = some b) (hk : k < n) : (pk l k n).setIfInBounds k (.int .u8 b) = pk l (k + 1) n := by
  rw [pk, pk, padn_next hb hk, bys, bys, List.setIfInBounds_toArray, List.map_set]
theorem pk_end {l : List Nat} {k n : Nat} (h : k = l.length ∨ n ≤ k) (hk : k ≤ l.length) : pk l k n = (bys (D.padn l n)).toArray := by
  rw [pk]
  congr 2
  rcases h with rfl | h
  · rw [List.take_of_length_le (Nat.le_refl _)]
  · unfold D.padn
    rw [List.take_append_of_le_length (by simp; omega), List.take_append_of_le_length (by omega), List.take_take, Nat.min_eq_left h]
set_option maxRecDepth 100000 in
theorem make_run (z : Nat) (hz : z ≤ 8) : ∀ W, (Instr.makeSlice 74 (.int .i64 (z : Int)) (.int .i64 (z : Int))).run Tryd.prog W = .ok (.slice (some ⟨W.heap.size, 0, none⟩) z z) (W.alloc (.cells (pk [] 0 z) 5)) := by
  intro W
  obtain ⟨i, hi, hz0, hz1, hz2⟩ := info_parts u8_info
  have hr := run_make (P := Tryd.prog) W 74 5 i _ Tryd.underlying74 hi hz0 .i64 .i64 z z (by omega) (Int.le_refl _) (by rw [hz2]; omega) (by omega)
  simp only [Int.toNat_natCast] at hr
  rw [hr, hz1, Nat.mul_one]
  congr 3
  apply Array.ext'
  have := toList_madeCells_one (.int .u8 0) z
  rw [show (Value.int IntKind.u8 0).cells = #[.int .u8 0] by rfl, this]
  simp [pk, bys, D.padn]
theorem own_of_blk {base : Nat} {w : World} {g z : Nat} {l : List Nat} (h : Blk w g 5 (bys l).toArray) (hg : base ≤ g) (hl : l.length = z) (hz : z ≤ 1000000) : Own base w (some ⟨g, 0, none⟩) z z l :=
  ⟨⟨by rw [bys_len, hl, Nat.mul_one], .inr ⟨g, z, _, rfl, hg, h.out, Nat.le_refl _, by simp only [maxLen]; omega, by simp [bys_len, hl], by
    rw [Nat.mul_one]
    show (bys l).take z = bys l
    exact List.take_of_length_le (by rw [bys_len, hl]; exact Nat.le_refl _)⟩⟩, Nat.le_trans hg (Nat.le_of_lt h.lt)⟩
theorem pk_first (l : List Nat) (n : Nat) : pk l 0 n = pk [] 0 n := rfl
set_option maxRecDepth 100000 in
set_option maxHeartbeats 1000000 in
theorem pad_3 (s : ByteArray) (w : World) (hs : s.size ≤ 100) : Calls Tryd.prog 47 #[.string s, .int .i64 3] w (Made w (D.padn (D.ns s) 3)) := by
  have hmk : ∀ W, (Instr.makeSlice 74 (.int .i64 3) (.int .i64 3)).run Tryd.prog W = .ok (.slice (some ⟨W.heap.size, 0, none⟩) 3 3) (W.alloc (.cells (pk [] 0 3) 5)) := make_run 3 (by decide)
  go_enter Tryd.func47, Tryd.ntmps47
  go_wp2
  clear hmk
  go_loopw [6] (fun i wr => ∃ k : Nat, k ≤ s.size ∧ k ≤ 3 ∧ i = .int .i64 k ∧ Blk wr w.heap.size 5 (pk (D.ns s) k 3) ∧ Below w.heap.size w wr) (fun i _ => s.size - (intOf i).toNat)
  case atStart => exact ⟨0, Nat.zero_le _, Nat.zero_le _, rfl, by rw [pk_first]; exact Blk.new w _ _, below_alloc_ _ _⟩
  case round =>
    obtain ⟨k, hk, hk2, rfl, B1, hbel⟩ := hrel
    by_cases hlt : k < s.size ∧ k < 3
    · obtain ⟨h1, h2⟩ := hlt
      have hb := ns_at h1
      obtain ⟨b, hq⟩ : ∃ b, s[k].toNat = b := ⟨_, rfl⟩
      rw [hq] at hb
      have hbn := B1.put k (.int .u8 b)
      rw [pk_next hb (by omega)] at hbn
      have hcs : ∃ v, wr.cell? ⟨w.heap.size, k, none⟩ = some v := by
        rw [B1.c]
        exact ⟨_, Array.getElem?_eq_getElem (by rw [pk_size]; omega)⟩
      obtain ⟨v0, hc⟩ := hcs
      have hf := B1.f k
      have i1 : (k : Int) < (s.size : Int) := by omega
      have i2 : (k : Int) < 3 := by omega
      clear hb B1
      go_wp2
      go_roundw
      case rel => exact ⟨k + 1, by omega, by omega, by go_num, hbn, hbel.setCell (Nat.le_refl _) _⟩
      case measure => simp [intOf]; omega
    · rw [pk_end (n := 3) (by rw [D.ns_len]; omega) (by rw [D.ns_len]; exact hk)] at B1
      have ho := own_of_blk B1 (Nat.le_refl _) (D.padn_len _ _) (by decide)
      clear B1
      by_cases h : k < s.size
      · have j1 : (k : Int) < (s.size : Int) := by omega
        have j2 : (3 : Int) ≤ (k : Int) := by omega
        clear hlt
        go_wp2
        go_ret
        exact made ho hbel
      · have j1 : (s.size : Int) ≤ (k : Int) := by omega
        clear hlt
        go_wp2
        go_ret
        exact made ho hbel
set_option maxRecDepth 100000 in
set_option maxHeartbeats 1000000 in
theorem pad_4 (s : ByteArray) (w : World) (hs : s.size ≤ 100) : Calls Tryd.prog 47 #[.string s, .int .i64 4] w (Made w (D.padn (D.ns s) 4)) := by
  have hmk : ∀ W, (Instr.makeSlice 74 (.int .i64 4) (.int .i64 4)).run Tryd.prog W = .ok (.slice (some ⟨W.heap.size, 0, none⟩) 4 4) (W.alloc (.cells (pk [] 0 4) 5)) := make_run 4 (by decide)
  go_enter Tryd.func47, Tryd.ntmps47
  go_wp2
  clear hmk
  go_loopw [6] (fun i wr => ∃ k : Nat, k ≤ s.size ∧ k ≤ 4 ∧ i = .int .i64 k ∧ Blk wr w.heap.size 5 (pk (D.ns s) k 4) ∧ Below w.heap.size w wr) (fun i _ => s.size - (intOf i).toNat)
  case atStart => exact ⟨0, Nat.zero_le _, Nat.zero_le _, rfl, by rw [pk_first]; exact Blk.new w _ _, below_alloc_ _ _⟩
  case round =>
    obtain ⟨k, hk, hk2, rfl, B1, hbel⟩ := hrel
    by_cases hlt : k < s.size ∧ k < 4
    · obtain ⟨h1, h2⟩ := hlt
      have hb := ns_at h1
      obtain ⟨b, hq⟩ : ∃ b, s[k].toNat = b := ⟨_, rfl⟩
      rw [hq] at hb
      have hbn := B1.put k (.int .u8 b)
      rw [pk_next hb (by omega)] at hbn
      have hcs : ∃ v, wr.cell? ⟨w.heap.size, k, none⟩ = some v := by
        rw [B1.c]
        exact ⟨_, Array.getElem?_eq_getElem (by rw [pk_size]; omega)⟩
      obtain ⟨v0, hc⟩ := hcs
      have hf := B1.f k
      have i1 : (k : Int) < (s.size : Int) := by omega
      have i2 : (k : Int) < 4 := by omega
      clear hb B1
      go_wp2
      go_roundw
      case rel => exact ⟨k + 1, by omega, by omega, by go_num, hbn, hbel.setCell (Nat.le_refl _) _⟩
      case measure => simp [intOf]; omega
    · rw [pk_end (n := 4) (by rw [D.ns_len]; omega) (by rw [D.ns_len]; exact hk)] at B1
      have ho := own_of_blk B1 (Nat.le_refl _) (D.padn_len _ _) (by decide)
      clear B1
      by_cases h : k < s.size
      · have j1 : (k : Int) < (s.size : Int) := by omega
        have j2 : (4 : Int) ≤ (k : Int) := by omega
        clear hlt
        go_wp2
        go_ret
        exact made ho hbel
      · have j1 : (s.size : Int) ≤ (k : Int) := by omega
        clear hlt
        go_wp2
        go_ret
        exact made ho hbel
theorem drop_at {l : List Nat} {j x : Nat} (h : l[j]? = some x) : l.drop j = x :: l.drop (j + 1) := by
  obtain ⟨h1, h2⟩ := List.getElem?_eq_some_iff.1 h
  rw [List.drop_eq_getElem_cons h1, h2]
theorem dw_nil : ∀ {l : List Nat}, (∀ x ∈ l, x = 0) → List.dropWhile (fun x => x == 0) l = []
  | [], _ => rfl
  | x :: l, h => by
    rw [List.dropWhile_cons_of_pos (by have := h x (by simp); simp [this])]
    exact dw_nil fun y hy => h y (by simp [hy])
theorem front_at {l : List Nat} {k : Nat} (hk : k ≤ l.length) (hz : ∀ b ∈ l.drop k, b = 0) (hn : k = 0 ∨ ∃ b, l[k - 1]? = some b ∧ b ≠ 0) : D.front l = l.take k := by
  unfold D.front
  conv => lhs; rw [← List.take_append_drop k l]
  rw [List.reverse_append, List.dropWhile_append]
  have e : List.dropWhile (fun x => x == 0) (l.drop k).reverse = [] := by
    exact dw_nil fun x hx => hz x (List.mem_reverse.1 hx)
  rw [e]
  simp only [List.isEmpty_nil, if_true]
  have : List.dropWhile (fun x => x == 0) (l.take k).reverse = (l.take k).reverse := by
    rcases hn with rfl | ⟨b, hb, hb0⟩
    · simp
    · have h1 : 1 ≤ k := by
        rcases Nat.eq_zero_or_pos k with h | h
        · subst h
          by_cases hl : l.length = 0
          · have : l = [] := List.eq_nil_of_length_eq_zero hl
            subst this; simp at hb
          · have := hz b (by rw [List.drop_zero]; exact List.mem_of_getElem? hb)
            exact absurd this hb0
        · exact h
      have e : l.take k = l.take (k - 1) ++ [b] := by
        have := take_next hb
        rwa [show k - 1 + 1 = k by omega] at this
      rw [e, List.reverse_append]
      simp [hb0]
  rw [this, List.reverse_reverse]
set_option maxRecDepth 100000 in
set_option maxHeartbeats 1000000 in
theorem front_any (ad : Addr) (n c : Nat) (l : List Nat) (w : World) (hr : Row w (some ad) n (bys l)) (hl : ∀ b ∈ l, b < 256) (hc : n ≤ c) (hs : n ≤ 100) : Calls Tryd.prog 27 #[.slice (some ad) n c] w fun e w' => e = .returned (.string (D.sb (D.front l))) ∧ w = w' := by
  have hlen := hr.len
  rw [bys_len] at hlen
  go_enter Tryd.func27, Tryd.ntmps27
  go_wp2
  go_loop [3] (fun i => ∃ k : Nat, k ≤ n ∧ i = .int .i64 k ∧ Kept (∀ b ∈ l.drop k, b = 0)) (fun i => (intOf i).toNat)
  case atStart => exact ⟨n, Nat.le_refl _, rfl, ⟨by rw [List.drop_of_length_le (by omega)]; exact fun b h => by cases h⟩⟩
  case round =>
    obtain ⟨k, hk, rfl, HZ⟩ := hrel
    have HU := upto_run_b (some ad) n c k k rfl (by omega)
    obtain ⟨A1, hu, hrow⟩ := HU
    by_cases h0 : k = 0
    · have hf := front_at (l := l) (k := k) (by omega) HZ.out (.inl h0)
      have hst := fun W => str_run W A1 k c (l.take k)
      have hst2 := hst w (by have := hrow w _ hr (by omega); rwa [bys_take] at this) (fun b hb => hl b (List.mem_of_mem_take hb))
      rw [← hf] at hst2
      have i1 : ¬ ((0 : Int) < (k : Int)) := by omega
      have i2 : (k : Int) ≤ 0 := by omega
      clear hst hf hrow HZ h0
      go_wp2
      go_ret
      exact ⟨rfl, rfl⟩
    · obtain ⟨b, hb, hbm⟩ := at_lt (l := l) (i := k - 1) (by omega)
      obtain ⟨ad', e, cx⟩ := hr.cell (bys_at hb)
      injection e with e
      subst e
      have i1 : (0 : Int) < (k : Int) := by omega
      have i2 : ((k : Int) - 1) = ((k - 1 : Nat) : Int) := by omega
      have i3 : ((k : Int) - 1).toNat = k - 1 := by omega
      have i4 : IntKind.i64.wrap ((k : Int) - 1) = (k : Int) - 1 := IntWalk.i64_in _ (by omega)
      by_cases hb0 : b = 0
      · subst hb0
        have HZ' : Kept (∀ b ∈ l.drop (k - 1), b = 0) := ⟨fun b' hb' => by
          have := drop_at hb
          rw [show k - 1 + 1 = k by omega] at this
          rw [this] at hb'
          rcases List.mem_cons.1 hb' with rfl | h
          · rfl
          · exact HZ.out b' h⟩
        have HI2 := Lib.hid i2
        clear hb hrow HZ i2 hu
        go_wp2
        go_round
        case rel => exact ⟨k - 1, by omega, by rw [← HI2.out], HZ'⟩
        case measure => simp [intOf]; omega
      · have c1 : ((b : Int) == 0) = false := by rw [beq_eq_false_iff_ne]; omega
        have hf := front_at (l := l) (k := k) (by omega) HZ.out (.inr ⟨b, hb, hb0⟩)
        have hst2 := str_run w A1 k c (l.take k) (by have := hrow w _ hr (by omega); rwa [bys_take] at this) (fun b hb => hl b (List.mem_of_mem_take hb))
        rw [← hf] at hst2
        clear hf hrow HZ hb i2
        go_wp2
        go_ret
        exact ⟨rfl, rfl⟩
end Go.Proofs.YtpiajeonnhfanaaDoor
