/-
  The document's Parse.
  The parts of a text, told by its first three pieces and the rest. No program is spoken of.
-/
import Derived.Test.YtpiajeonnhfanaaDoorGm
import Derived.Test.YtpiajeonnhfanaaDoorTurn
import Derived.Test.YtpiajeonnhfanaaDoorGa
set_option linter.unusedVariables false
set_option linter.unusedSimpArgs false
namespace Go.Proofs.YtpiajeonnhfanaaDoor
open Go.RowKit
attribute [local go_sem ↓] Go.wp_at_zero Go.wp_at_succ

theorem root_test (s : ByteArray) : (s.toList == [114, 111, 111, 116]) = decide (D.ns s = D.rootT) := by
  rw [ByteArray.toList_eq, Bool.eq_iff_iff, beq_iff_eq, decide_eq_true_eq]
  constructor
  · intro h; rw [D.ns, h]; rfl
  · intro h
    have e : s = ⟨#[114, 111, 111, 116]⟩ := D.ns_inj (h.trans rfl)
    rw [e]
/-- A tag's parts as the document's value. -/
def av (p : D.Pt) : Value := .agg #[.string (D.sb p.l), .string (D.sb p.s), .string (D.sb p.r)]
def avc (p : D.Pt) : Array Value := #[.string (D.sb p.l), .string (D.sb p.s), .string (D.sb p.r)]
theorem sb_empty (l : List Nat) : (D.sb l).toList.isEmpty = l.isEmpty := by
  rw [ByteArray.toList_eq]
  cases l <;> rfl
theorem ns_sb_lt {l : List Nat} (h : ∀ b ∈ l, b < 256) : D.ns (D.sb l) = l := D.ns_sb h
/-- How long the rest is. -/
def mz (r m : Value) : Nat := match m, r with
  | .bool true, .string s => s.size + 1
  | _, _ => 0
/-- What is still to come. -/
def fin (t : D.Pt) (rest : List Nat) (more : Bool) : Option D.Pt := if more then D.foldP t (D.spl rest) else some t
theorem fin_step (t : D.Pt) (rest : List Nat) : fin t rest true = match D.step t (D.cutP rest) with
    | none => none
    | some u => fin u (D.cutR rest) (D.cutM rest) := by
  unfold fin
  rw [if_pos rfl, D.spl_cut, D.foldP]
  cases D.step t (D.cutP rest) with
  | none => rfl
  | some u =>
    simp only
    cases h : D.cutM rest <;> simp [D.foldP]
theorem step_s {t : D.Pt} {p : List Nat} (h : D.isS p = true) (hs : t.s = []) (hr : t.r = []) : D.step t p = some ⟨t.l, D.cap p, t.r⟩ := by unfold D.step; simp [h, hs, hr]
theorem step_r {t : D.Pt} {p : List Nat} (h : D.isR p = true) (hr : t.r = []) : D.step t p = some ⟨t.l, t.s, D.up p⟩ := by unfold D.step; simp [D.isR_not_isS h, h, hr]
theorem step_r_no {t : D.Pt} {p : List Nat} (h : D.isR p = true) (hr : t.r ≠ []) : D.step t p = none := by unfold D.step; simp [D.isR_not_isS h, h, hr]
theorem isS_not_isR {p : List Nat} (h : D.isS p = true) : D.isR p = false := by
  cases e : D.isR p
  · rfl
  · rw [D.isR_not_isS e] at h; cases h
theorem step_s_no {t : D.Pt} {p : List Nat} (h : D.isS p = true) (hr : t.s ≠ [] ∨ t.r ≠ []) : D.step t p = none := by
  unfold D.step
  rcases hr with hr | hr <;> simp [isS_not_isR h, h, hr]
theorem step_no {t : D.Pt} {p : List Nat} (h : D.isS p = false) (hr : D.isR p = false) : D.step t p = none := by unfold D.step; simp [h, hr]
theorem empty_of {l : List Nat} : (l = [] → (D.sb l).toList.isEmpty = true) ∧ (l ≠ [] → (D.sb l).toList.isEmpty = false) := by
  constructor
  · rintro rfl; rw [sb_empty]; rfl
  · intro h; rw [sb_empty]; cases l <;> simp_all
/-- Which kind a piece is. -/
inductive Pc (P : List Nat) : Prop where
  | s (h : D.isS P = true) (k : kind P = 1) (n : P.length = 4)
  | r2 (h : D.isR P = true) (k : kind P = 1) (n : P.length = 2)
  | r3 (h : D.isR P = true) (k : kind P = 2) (n : P.length = 3)
  | n1 (h : D.isS P = false) (h' : D.isR P = false) (k : kind P = 1) (n : P.length ≠ 4) (n' : P.length ≠ 2)
  | n2 (h : D.isS P = false) (h' : D.isR P = false) (k : kind P = 2) (n : P.length ≠ 3)
  | n0 (h : D.isS P = false) (h' : D.isR P = false) (k : kind P = 0)
theorem pc (P : List Nat) : Pc P := by
  by_cases hL : D.allL P = true
  · have k1 : kind P = 1 := by unfold kind; rw [if_pos hL]
    by_cases h4 : P.length = 4
    · exact .s (D.isS_iff.2 ⟨h4, hL⟩) k1 h4
    · by_cases h2 : P.length = 2
      · exact .r2 (D.isR_iff.2 (.inl ⟨h2, hL⟩)) k1 h2
      · refine .n1 ?_ ?_ k1 h4 h2
        · simp [D.isS, h4]
        · by_cases h3 : P.length = 3
          · have : D.allD P = false := by
              cases e : D.allD P
              · rfl
              · obtain ⟨b, hb⟩ : ∃ b, b ∈ P := by
                  cases P with
                  | nil => simp at h3
                  | cons b t => exact ⟨b, by simp⟩
                have h1 := List.all_eq_true.1 hL b hb
                have h2 := List.all_eq_true.1 e b hb
                simp [D.letB] at h1
                simp [D.digB] at h2
                omega
            simp [D.isR, h2, this]
          · simp [D.isR, h2, h3]
  · have hS : D.isS P = false := by simp [D.isS]; intro _; simpa using hL
    by_cases hD : D.allD P = true
    · have k2 : kind P = 2 := by unfold kind; rw [if_neg hL, if_pos hD]
      by_cases h3 : P.length = 3
      · exact .r3 (D.isR_iff.2 (.inr ⟨h3, hD⟩)) k2 h3
      · exact .n2 hS (by simp [D.isR, h3, hL]) k2 h3
    · exact .n0 hS (by simp [D.isR, hL, hD]) (by unfold kind; rw [if_neg hL, if_neg hD])
theorem blk3 {w : World} {g : Nat} {t : TypeId} {a b c : Value} (h : Blk w g t #[a, b, c]) : (w.cell? ⟨g, 0, none⟩ = some a ∧ w.cell? ⟨g, 1, none⟩ = some b ∧ w.cell? ⟨g, 2, none⟩ = some c) ∧ (w.frozen? ⟨g, 0, none⟩ = false ∧ w.frozen? ⟨g, 1, none⟩ = false ∧ w.frozen? ⟨g, 2, none⟩ = false) :=
  ⟨⟨(h.c 0).trans rfl, (h.c 1).trans rfl, (h.c 2).trans rfl⟩, h.f 0, h.f 1, h.f 2⟩
theorem cut_sb (l : List Nat) (h : ∀ b ∈ l, b < 256) (hl : l.length ≤ 100) (w : World) : Calls Tryd.prog 38 #[.string (D.sb l)] w fun e w' => e = .returned (.tuple #[.string (D.sb (D.cutP l)), .string (D.sb (D.cutR l)), .bool (D.cutM l)]) ∧ ∃ q, w' = w.drewN q := by
  have := cut_any (D.sb l) w (by rw [D.sb_len]; exact hl)
  rwa [D.ns_sb h] at this
theorem kind_sb (l : List Nat) (h : ∀ b ∈ l, b < 256) (hl : l.length ≤ 100) (w : World) : Calls Tryd.prog 39 #[.string (D.sb l)] w fun e w' => e = .returned (.int .i64 (kind l)) ∧ w = w' := by
  have := kind_any (D.sb l) w (by rw [D.sb_len]; exact hl)
  rwa [D.ns_sb h] at this
theorem low_sb (l : List Nat) (h : ∀ b ∈ l, b < 256) (hl : l.length ≤ 100) (w : World) : Calls Tryd.prog 40 #[.string (D.sb l), .bool false] w fun e w' => e = .returned (.string (D.sb (D.low l))) ∧ Below w.heap.size w w' := by
  have := turn_low (D.sb l) w (by rw [D.sb_len]; exact hl)
  rwa [D.ns_sb h] at this
theorem up_sb (l : List Nat) (h : ∀ b ∈ l, b < 256) (hl : l.length ≤ 100) (w : World) : Calls Tryd.prog 40 #[.string (D.sb l), .bool true] w fun e w' => e = .returned (.string (D.sb (D.up l))) ∧ Below w.heap.size w w' := by
  have := turn_up (D.sb l) w (by rw [D.sb_len]; exact hl)
  rwa [D.ns_sb h] at this
theorem sb_take (l : List Nat) (k : Nat) (h : ∀ b ∈ l, b < 256) : (D.sb l).extract 0 k = D.sb (l.take k) := by
  refine D.ns_inj ?_
  rw [ns_take, D.ns_sb h, D.ns_sb fun b hb => h b (List.mem_of_mem_take hb)]
theorem sb_drop (l : List Nat) (k : Nat) (h : ∀ b ∈ l, b < 256) : (D.sb l).extract k (D.sb l).size = D.sb (l.drop k) := by
  refine D.ns_inj ?_
  rw [ns_drop, D.ns_sb h, D.ns_sb fun b hb => h b (List.mem_of_mem_drop hb)]
def emp : Array Value := #[.string ⟨#[]⟩, .string ⟨#[]⟩, .string ⟨#[]⟩]
/-- The loop's state. -/
structure St (base : Nat) (w0 w : World) (R T : Nat) (t : D.Pt) (rest : List Nat) (more : Bool) (ans : Option D.Pt) : Prop where
  b2 : Blk w R 46 emp
  b7 : Blk w T 46 (avc t)
  lt : ∀ b ∈ rest, b < 256
  len : rest.length ≤ 100
  ans : Kept (fin t rest more = ans)
  bel : Below base w0 w
  ne : R ≠ T
  hR : base ≤ R
  hT : base ≤ T

theorem av_rt : av D.rt = .agg #[.string ⟨#[]⟩, .string ⟨#[]⟩, .string ⟨#[]⟩] := rfl
theorem below_sets {base : Nat} {w0 w : World} (h : Below base w0 w) {R : Nat} (hR : base ≤ R) (a b c : Value) : Below base w0 (((w.setCell ⟨R, 0, none⟩ a).setCell ⟨R, 1, none⟩ b).setCell ⟨R, 2, none⟩ c) := ((h.setCell hR a).setCell hR b).setCell hR c
theorem kind_in (P : List Nat) : kind P = 0 ∨ kind P = 1 ∨ kind P = 2 := by unfold kind; split <;> (try split) <;> simp
theorem kind_L {P : List Nat} : kind P = 1 ↔ D.allL P = true := by
  unfold kind
  by_cases h : D.allL P = true
  · simp [h]
  · rw [if_neg h]
    constructor
    · intro e; split at e <;> cases e
    · intro e; exact absurd e h
/-- One round. -/
theorem round_ans {t : D.Pt} {rest : List Nat} {ans : Option D.Pt} (h : Kept (fin t rest true = ans)) {u : D.Pt} (hs : D.step t (D.cutP rest) = some u) : Kept (fin u (D.cutR rest) (D.cutM rest) = ans) := ⟨by rw [← h.out, fin_step, hs]⟩
theorem round_none {t : D.Pt} {rest : List Nat} {ans : Option D.Pt} (h : Kept (fin t rest true = ans)) (hs : D.step t (D.cutP rest) = none) : ans = none := by rw [← h.out, fin_step, hs]
theorem st_drew {base : Nat} {w0 w : World} {R T : Nat} {t : D.Pt} {rest : List Nat} {more : Bool} {ans : Option D.Pt} (h : St base w0 w R T t rest more ans) (q : Nat) : St base w0 (w.drewN q) R T t rest more ans :=
  ⟨⟨h.b2.out⟩, ⟨h.b7.out⟩, h.lt, h.len, h.ans, ⟨h.bel.os, h.bel.tape, h.bel.output, h.bel.size, h.bel.block⟩, h.ne, h.hR, h.hT⟩
theorem st_on {base : Nat} {w0 w w' : World} {R T : Nat} {t : D.Pt} {rest : List Nat} {more : Bool} {ans : Option D.Pt} (h : St base w0 w R T t rest more ans) (hb : Below w.heap.size w w') (hz : base ≤ w.heap.size) : St base w0 w' R T t rest more ans :=
  ⟨h.b2.on hb, h.b7.on hb, h.lt, h.len, h.ans, below_on h.bel hz hb, h.ne, h.hR, h.hT⟩
theorem st_put {base : Nat} {w0 w : World} {R T : Nat} {t u : D.Pt} {rest rest' : List Nat} {more more' : Bool} {ans : Option D.Pt} (h : St base w0 w R T t rest more ans) (k : Nat) (v : Value) (hu : (avc t).setIfInBounds k v = avc u) (hl : ∀ b ∈ rest', b < 256) (hn : rest'.length ≤ 100) (ha : Kept (fin u rest' more' = ans)) : St base w0 (w.setCell ⟨T, k, none⟩ v) R T u rest' more' ans :=
  ⟨h.b2.far (p := ⟨T, k, none⟩) h.ne v, by have := h.b7.put k v; rwa [hu] at this, hl, hn, ha, h.bel.setCell (p := ⟨T, k, none⟩) h.hT v, h.ne, h.hR, h.hT⟩
theorem parse_fin {s : List Nat} (h : s ≠ D.rootT) (hl : D.isL (D.cutP s) = true) : fin ⟨D.low (D.cutP s), [], []⟩ (D.cutR s) (D.cutM s) = D.parse s := by unfold D.parse fin; rw [if_neg h, if_pos hl]
theorem parse_no {s : List Nat} (h : s ≠ D.rootT) (hl : D.isL (D.cutP s) = false) : D.parse s = none := by unfold D.parse; rw [if_neg h, if_neg (by rw [hl]; decide)]
theorem lt_cutP {l : List Nat} (h : ∀ b ∈ l, b < 256) : ∀ b ∈ D.cutP l, b < 256 := fun b hb => h b (D.cutP_mem hb)
theorem lt_cutR {l : List Nat} (h : ∀ b ∈ l, b < 256) : ∀ b ∈ D.cutR l, b < 256 := fun b hb => h b (D.cutR_mem hb)
theorem len_cutR (l : List Nat) : (D.cutR l).length ≤ l.length := by
  cases h : D.cutM l
  · rw [(D.cut_none l h).2]; exact Nat.zero_le _
  · exact Nat.le_of_lt (D.cutR_lt h)
end Go.Proofs.YtpiajeonnhfanaaDoor
set_option linter.unusedVariables false
set_option linter.unusedSimpArgs false
namespace Go.Proofs.YtpiajeonnhfanaaDoor
namespace D

/-- What a language and the pieces behind it come to. -/
def tail3 (l : List Nat) : List (List Nat) → Option Pt
  | [] => some ⟨l, [], []⟩
  | [a] => if isS a then some ⟨l, cap a, []⟩ else if isR a then some ⟨l, [], up a⟩ else none
  | [a, b] => if isS a then (if isR b then some ⟨l, cap a, up b⟩ else none) else none
  | _ => none
theorem up_ne {l : List Nat} (h : isR l = true) : up l ≠ [] := by
  intro e
  have e : l.length = 0 := by rw [← up_len, e]; rfl
  rcases isR_iff.1 h with ⟨h, _⟩ | ⟨h, _⟩ <;> omega
theorem cap_ne {l : List Nat} (h : isS l = true) : cap l ≠ [] := by
  intro e
  have e : l.length = 0 := by rw [← cap_len, e]; rfl
  have := (isS_iff.1 h).1
  omega
theorem step_full {t : Pt} (h : t.r ≠ []) (p : List Nat) : step t p = none := by unfold step; simp [h]
theorem isS_isR {p : List Nat} (h : isS p = true) : isR p = false := by
  cases e : isR p
  · rfl
  · rw [isR_not_isS e] at h; cases h
theorem step_first (l a : List Nat) : step ⟨l, [], []⟩ a = if isS a then some ⟨l, cap a, []⟩ else if isR a then some ⟨l, [], up a⟩ else none := by unfold step; simp
theorem step_second {s : List Nat} (hs : s ≠ []) (l a : List Nat) : step ⟨l, s, []⟩ a = if isR a then some ⟨l, s, up a⟩ else none := by unfold step; simp [hs]
theorem fold_tail (l : List Nat) : ∀ q : List (List Nat), q.length ≤ 2 → foldP ⟨l, [], []⟩ q = tail3 l q
  | [], _ => rfl
  | [a], _ => by
    rw [foldP, step_first, tail3]
    by_cases h : isS a = true
    · simp [h, foldP]
    · by_cases h' : isR a = true
      · simp [h, h', foldP]
      · simp [h, h']
  | [a, b], _ => by
    rw [foldP, step_first, tail3]
    by_cases h : isS a = true
    · rw [if_pos h, if_pos h]
      simp only
      rw [foldP, step_second (cap_ne h)]
      by_cases h' : isR b = true
      · simp [h', foldP]
      · simp [h']
    · rw [if_neg h, if_neg h]
      by_cases h' : isR a = true
      · rw [if_pos h']
        simp only
        rw [foldP, step_full (up_ne h')]
      · rw [if_neg h']
  | a :: b :: c :: r, h => by simp at h
theorem fold_long (l a b c : List Nat) (r : List (List Nat)) : foldP ⟨l, [], []⟩ (a :: b :: c :: r) = none := by
  rw [foldP, step_first]
  by_cases h : isS a = true
  · rw [if_pos h]
    simp only
    rw [foldP, step_second (cap_ne h)]
    by_cases h' : isR b = true
    · rw [if_pos h']
      simp only
      rw [foldP, step_full (up_ne h')]
    · rw [if_neg h']
  · rw [if_neg h]
    by_cases h' : isR a = true
    · rw [if_pos h']
      simp only
      rw [foldP, step_full (up_ne h')]
    · rw [if_neg h']
theorem spl_ne (t : List Nat) : ∃ p ps, spl t = p :: ps := ⟨_, _, spl_cut t⟩
theorem parse_spn {s : List Nat} (h : s ≠ rootT) : ∃ p q, spn 3 s = p :: q ∧ q.length ≤ 3 ∧ parse s = if isL p then tail3 (low p) q else none := by
  unfold parse
  rw [if_neg h]
  rw [spn]
  cases h1 : cutM s
  · refine ⟨s, [], by simp, by simp, ?_⟩
    rw [(cut_none s h1).1]
    simp [tail3]
  · rw [if_pos rfl, if_pos rfl, spl_cut, spn]
    cases h2 : cutM (cutR s)
    · refine ⟨_, _, rfl, by simp, ?_⟩
      rw [(cut_none _ h2).1, ← fold_tail _ _ (by simp)]
      simp
    · rw [if_pos rfl, if_pos rfl, spl_cut, spn]
      cases h3 : cutM (cutR (cutR s))
      · refine ⟨_, _, rfl, by simp, ?_⟩
        rw [(cut_none _ h3).1, ← fold_tail _ _ (by simp)]
        simp
      · rw [if_pos rfl, if_pos rfl]
        obtain ⟨p, ps, e⟩ := spl_ne (cutR (cutR (cutR s)))
        refine ⟨_, _, rfl, by simp [spn], ?_⟩
        rw [e, fold_long]
        simp [spn, tail3]
end D
end Go.Proofs.YtpiajeonnhfanaaDoor
