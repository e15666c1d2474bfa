/-
  The document's Parse.
  The document's Parse, walked.
  The law of tags' texts: its walk.
  The document's Of.
-/
import Derived.Test.YtkhjnfplcaffnaaGm
import Derived.Test.YtkhjnfplcaffnaaDk
import Derived.Test.YtkhjnfplcaffnaaKno
import Derived.Test.YtkhjnfplcaffnaaDl
set_option linter.unusedVariables false
set_option linter.unusedSimpArgs false
namespace Go.Proofs.Ytkhjnfplcaffnaa
open Go.RowKit
attribute [local go_sem ↓] Go.wp_at_zero Go.wp_at_succ

theorem root_test (s : ByteArray) : (s.toList == [114, 111, 111, 116]) = decide (D.ns s = D.rootT) := by
  rw [ByteArray.toList_eq, Bool.eq_iff_iff, beq_iff_eq, decide_eq_true_eq]
  constructor
  · intro h; rw [D.ns, h]; rfl
  · intro h
    have e : s = ⟨#[114, 111, 111, 116]⟩ := D.ns_inj (h.trans rfl)
    rw [e]
/-- A tag's parts as the document's value. -/
def av (p : D.Pt) : Value := .agg #[.string (D.sb p.l), .string (D.sb p.s), .string (D.sb p.r)]
def avc (p : D.Pt) : Array Value := #[.string (D.sb p.l), .string (D.sb p.s), .string (D.sb p.r)]
theorem sb_empty (l : List Nat) : (D.sb l).toList.isEmpty = l.isEmpty := by
  rw [ByteArray.toList_eq]
  cases l <;> rfl
theorem ns_sb_lt {l : List Nat} (h : ∀ b ∈ l, b < 256) : D.ns (D.sb l) = l := D.ns_sb h
/-- How long the rest is. -/
def mz (r m : Value) : Nat := match m, r with
  | .bool true, .string s => s.size + 1
  | _, _ => 0
/-- What is still to come. -/
def fin (t : D.Pt) (rest : List Nat) (more : Bool) : Option D.Pt := if more then D.foldP t (D.spl rest) else some t
theorem fin_step (t : D.Pt) (rest : List Nat) : fin t rest true = match D.step t (D.cutP rest) with
    | none => none
    | some u => fin u (D.cutR rest) (D.cutM rest) := by
  unfold fin
  rw [if_pos rfl, D.spl_cut, D.foldP]
  cases D.step t (D.cutP rest) with
  | none => rfl
  | some u =>
    simp only
    cases h : D.cutM rest <;> simp [D.foldP]
theorem step_s {t : D.Pt} {p : List Nat} (h : D.isS p = true) (hs : t.s = []) (hr : t.r = []) : D.step t p = some ⟨t.l, D.cap p, t.r⟩ := by unfold D.step; simp [h, hs, hr]
theorem step_r {t : D.Pt} {p : List Nat} (h : D.isR p = true) (hr : t.r = []) : D.step t p = some ⟨t.l, t.s, D.up p⟩ := by unfold D.step; simp [D.isR_not_isS h, h, hr]
theorem step_r_no {t : D.Pt} {p : List Nat} (h : D.isR p = true) (hr : t.r ≠ []) : D.step t p = none := by unfold D.step; simp [D.isR_not_isS h, h, hr]
theorem isS_not_isR {p : List Nat} (h : D.isS p = true) : D.isR p = false := by
  cases e : D.isR p
  · rfl
  · rw [D.isR_not_isS e] at h; cases h
theorem step_s_no {t : D.Pt} {p : List Nat} (h : D.isS p = true) (hr : t.s ≠ [] ∨ t.r ≠ []) : D.step t p = none := by
  unfold D.step
  rcases hr with hr | hr <;> simp [isS_not_isR h, h, hr]
theorem step_no {t : D.Pt} {p : List Nat} (h : D.isS p = false) (hr : D.isR p = false) : D.step t p = none := by unfold D.step; simp [h, hr]
theorem empty_of {l : List Nat} : (l = [] → (D.sb l).toList.isEmpty = true) ∧ (l ≠ [] → (D.sb l).toList.isEmpty = false) := by
  constructor
  · rintro rfl; rw [sb_empty]; rfl
  · intro h; rw [sb_empty]; cases l <;> simp_all
/-- Which kind a piece is. -/
inductive Pc (P : List Nat) : Prop where
  | s (h : D.isS P = true) (k : kind P = 1) (n : P.length = 4)
  | r2 (h : D.isR P = true) (k : kind P = 1) (n : P.length = 2)
  | r3 (h : D.isR P = true) (k : kind P = 2) (n : P.length = 3)
  | n1 (h : D.isS P = false) (h' : D.isR P = false) (k : kind P = 1) (n : P.length ≠ 4) (n' : P.length ≠ 2)
  | n2 (h : D.isS P = false) (h' : D.isR P = false) (k : kind P = 2) (n : P.length ≠ 3)
  | n0 (h : D.isS P = false) (h' : D.isR P = false) (k : kind P = 0)
theorem pc (P : List Nat) : Pc P := by
  by_cases hL : D.allL P = true
  · have k1 : kind P = 1 := by unfold kind; rw [if_pos hL]
    by_cases h4 : P.length = 4
    · exact .s (D.isS_iff.2 ⟨h4, hL⟩) k1 h4
    · by_cases h2 : P.length = 2
      · exact .r2 (D.isR_iff.2 (.inl ⟨h2, hL⟩)) k1 h2
      · refine .n1 ?_ ?_ k1 h4 h2
        · simp [D.isS, h4]
        · by_cases h3 : P.length = 3
          · have : D.allD P = false := by
              cases e : D.allD P
              · rfl
              · obtain ⟨b, hb⟩ : ∃ b, b ∈ P := by
                  cases P with
                  | nil => simp at h3
                  | cons b t => exact ⟨b, by simp⟩
                have h1 := List.all_eq_true.1 hL b hb
                have h2 := List.all_eq_true.1 e b hb
                simp [D.letB] at h1
                simp [D.digB] at h2
                omega
            simp [D.isR, h2, this]
          · simp [D.isR, h2, h3]
  · have hS : D.isS P = false := by simp [D.isS]; intro _; simpa using hL
    by_cases hD : D.allD P = true
    · have k2 : kind P = 2 := by unfold kind; rw [if_neg hL, if_pos hD]
      by_cases h3 : P.length = 3
      · exact .r3 (D.isR_iff.2 (.inr ⟨h3, hD⟩)) k2 h3
      · exact .n2 hS (by simp [D.isR, h3, hL]) k2 h3
    · exact .n0 hS (by simp [D.isR, hL, hD]) (by unfold kind; rw [if_neg hL, if_neg hD])
theorem blk3 {w : World} {g : Nat} {t : TypeId} {a b c : Value} (h : Blk w g t #[a, b, c]) : (w.cell? ⟨g, 0, none⟩ = some a ∧ w.cell? ⟨g, 1, none⟩ = some b ∧ w.cell? ⟨g, 2, none⟩ = some c) ∧ (w.frozen? ⟨g, 0, none⟩ = false ∧ w.frozen? ⟨g, 1, none⟩ = false ∧ w.frozen? ⟨g, 2, none⟩ = false) :=
  ⟨⟨(h.c 0).trans rfl, (h.c 1).trans rfl, (h.c 2).trans rfl⟩, h.f 0, h.f 1, h.f 2⟩
theorem cut_sb (l : List Nat) (h : ∀ b ∈ l, b < 256) (hl : l.length ≤ 100) (w : World) : Calls Try.prog 64 #[.string (D.sb l)] w fun e w' => e = .returned (.tuple #[.string (D.sb (D.cutP l)), .string (D.sb (D.cutR l)), .bool (D.cutM l)]) ∧ ∃ q, w' = w.drewN q := by
  have := cut_any (D.sb l) w (by rw [D.sb_len]; exact hl)
  rwa [D.ns_sb h] at this
theorem kind_sb (l : List Nat) (h : ∀ b ∈ l, b < 256) (hl : l.length ≤ 100) (w : World) : Calls Try.prog 65 #[.string (D.sb l)] w fun e w' => e = .returned (.int .i64 (kind l)) ∧ w = w' := by
  have := kind_any (D.sb l) w (by rw [D.sb_len]; exact hl)
  rwa [D.ns_sb h] at this
theorem low_sb (l : List Nat) (h : ∀ b ∈ l, b < 256) (hl : l.length ≤ 100) (w : World) : Calls Try.prog 66 #[.string (D.sb l), .bool false] w fun e w' => e = .returned (.string (D.sb (D.low l))) ∧ Below w.heap.size w w' := by
  have := turn_low (D.sb l) w (by rw [D.sb_len]; exact hl)
  rwa [D.ns_sb h] at this
theorem up_sb (l : List Nat) (h : ∀ b ∈ l, b < 256) (hl : l.length ≤ 100) (w : World) : Calls Try.prog 66 #[.string (D.sb l), .bool true] w fun e w' => e = .returned (.string (D.sb (D.up l))) ∧ Below w.heap.size w w' := by
  have := turn_up (D.sb l) w (by rw [D.sb_len]; exact hl)
  rwa [D.ns_sb h] at this
theorem sb_take (l : List Nat) (k : Nat) (h : ∀ b ∈ l, b < 256) : (D.sb l).extract 0 k = D.sb (l.take k) := by
  refine D.ns_inj ?_
  rw [ns_take, D.ns_sb h, D.ns_sb fun b hb => h b (List.mem_of_mem_take hb)]
theorem sb_drop (l : List Nat) (k : Nat) (h : ∀ b ∈ l, b < 256) : (D.sb l).extract k (D.sb l).size = D.sb (l.drop k) := by
  refine D.ns_inj ?_
  rw [ns_drop, D.ns_sb h, D.ns_sb fun b hb => h b (List.mem_of_mem_drop hb)]
def emp : Array Value := #[.string ⟨#[]⟩, .string ⟨#[]⟩, .string ⟨#[]⟩]
/-- The loop's state. -/
structure St (base : Nat) (w0 w : World) (R T : Nat) (t : D.Pt) (rest : List Nat) (more : Bool) (ans : Option D.Pt) : Prop where
  b2 : Blk w R 110 emp
  b7 : Blk w T 110 (avc t)
  lt : ∀ b ∈ rest, b < 256
  len : rest.length ≤ 100
  ans : Kept (fin t rest more = ans)
  bel : Below base w0 w
  ne : R ≠ T
  hR : base ≤ R
  hT : base ≤ T

theorem av_rt : av D.rt = .agg #[.string ⟨#[]⟩, .string ⟨#[]⟩, .string ⟨#[]⟩] := rfl
theorem below_sets {base : Nat} {w0 w : World} (h : Below base w0 w) {R : Nat} (hR : base ≤ R) (a b c : Value) : Below base w0 (((w.setCell ⟨R, 0, none⟩ a).setCell ⟨R, 1, none⟩ b).setCell ⟨R, 2, none⟩ c) := ((h.setCell hR a).setCell hR b).setCell hR c
theorem kind_in (P : List Nat) : kind P = 0 ∨ kind P = 1 ∨ kind P = 2 := by unfold kind; split <;> (try split) <;> simp
theorem kind_L {P : List Nat} : kind P = 1 ↔ D.allL P = true := by
  unfold kind
  by_cases h : D.allL P = true
  · simp [h]
  · rw [if_neg h]
    constructor
    · intro e; split at e <;> cases e
    · intro e; exact absurd e h
/-- One round. -/
theorem round_ans {t : D.Pt} {rest : List Nat} {ans : Option D.Pt} (h : Kept (fin t rest true = ans)) {u : D.Pt} (hs : D.step t (D.cutP rest) = some u) : Kept (fin u (D.cutR rest) (D.cutM rest) = ans) := ⟨by rw [← h.out, fin_step, hs]⟩
theorem round_none {t : D.Pt} {rest : List Nat} {ans : Option D.Pt} (h : Kept (fin t rest true = ans)) (hs : D.step t (D.cutP rest) = none) : ans = none := by rw [← h.out, fin_step, hs]
theorem st_drew {base : Nat} {w0 w : World} {R T : Nat} {t : D.Pt} {rest : List Nat} {more : Bool} {ans : Option D.Pt} (h : St base w0 w R T t rest more ans) (q : Nat) : St base w0 (w.drewN q) R T t rest more ans :=
  ⟨⟨h.b2.out⟩, ⟨h.b7.out⟩, h.lt, h.len, h.ans, ⟨h.bel.os, h.bel.tape, h.bel.output, h.bel.size, h.bel.block⟩, h.ne, h.hR, h.hT⟩
theorem st_on {base : Nat} {w0 w w' : World} {R T : Nat} {t : D.Pt} {rest : List Nat} {more : Bool} {ans : Option D.Pt} (h : St base w0 w R T t rest more ans) (hb : Below w.heap.size w w') (hz : base ≤ w.heap.size) : St base w0 w' R T t rest more ans :=
  ⟨h.b2.on hb, h.b7.on hb, h.lt, h.len, h.ans, below_on h.bel hz hb, h.ne, h.hR, h.hT⟩
theorem st_put {base : Nat} {w0 w : World} {R T : Nat} {t u : D.Pt} {rest rest' : List Nat} {more more' : Bool} {ans : Option D.Pt} (h : St base w0 w R T t rest more ans) (k : Nat) (v : Value) (hu : (avc t).setIfInBounds k v = avc u) (hl : ∀ b ∈ rest', b < 256) (hn : rest'.length ≤ 100) (ha : Kept (fin u rest' more' = ans)) : St base w0 (w.setCell ⟨T, k, none⟩ v) R T u rest' more' ans :=
  ⟨h.b2.far (p := ⟨T, k, none⟩) h.ne v, by have := h.b7.put k v; rwa [hu] at this, hl, hn, ha, h.bel.setCell (p := ⟨T, k, none⟩) h.hT v, h.ne, h.hR, h.hT⟩
theorem parse_fin {s : List Nat} (h : s ≠ D.rootT) (hl : D.isL (D.cutP s) = true) : fin ⟨D.low (D.cutP s), [], []⟩ (D.cutR s) (D.cutM s) = D.parse s := by unfold D.parse fin; rw [if_neg h, if_pos hl]
theorem parse_no {s : List Nat} (h : s ≠ D.rootT) (hl : D.isL (D.cutP s) = false) : D.parse s = none := by unfold D.parse; rw [if_neg h, if_neg (by rw [hl]; decide)]
theorem lt_cutP {l : List Nat} (h : ∀ b ∈ l, b < 256) : ∀ b ∈ D.cutP l, b < 256 := fun b hb => h b (D.cutP_mem hb)
theorem lt_cutR {l : List Nat} (h : ∀ b ∈ l, b < 256) : ∀ b ∈ D.cutR l, b < 256 := fun b hb => h b (D.cutR_mem hb)
theorem len_cutR (l : List Nat) : (D.cutR l).length ≤ l.length := by
  cases h : D.cutM l
  · rw [(D.cut_none l h).2]; exact Nat.zero_le _
  · exact Nat.le_of_lt (D.cutR_lt h)
end Go.Proofs.Ytkhjnfplcaffnaa
set_option linter.unusedVariables false
set_option linter.unusedSimpArgs false
namespace Go.Proofs.Ytkhjnfplcaffnaa
open Go.RowKit
attribute [local go_sem ↓] Go.wp_at_zero Go.wp_at_succ

theorem below_drewN_ {base : Nat} {w0 w : World} (h : Below base w0 w) (q : Nat) : Below base w0 (w.drewN q) := ⟨h.os, h.tape, h.output, h.size, h.block⟩
theorem cells_drewN {w : World} {g : Nat} {a b c : Value} (c0 : w.cell? ⟨g, 0, none⟩ = some a) (c1 : w.cell? ⟨g, 1, none⟩ = some b) (c2 : w.cell? ⟨g, 2, none⟩ = some c) (f0 : w.frozen? ⟨g, 0, none⟩ = false) (f1 : w.frozen? ⟨g, 1, none⟩ = false) (f2 : w.frozen? ⟨g, 2, none⟩ = false) (q : Nat) : True := trivial
set_option maxRecDepth 100000 in
set_option maxHeartbeats 8000000 in
theorem ref_parse (s : ByteArray) (w : World) (hs : s.size ≤ 100) :
    Calls Try.prog 59 #[.string s] w fun e w' => e = .returned (.tuple #[av ((D.parse (D.ns s)).getD D.rt), .bool (D.parse (D.ns s)).isSome]) ∧ Below w.heap.size w w' := by
  have hrt := root_test s
  have hlt := D.ns_lt s
  have hlen : (D.ns s).length ≤ 100 := by rw [D.ns_len]; exact hs
  have B2 : Blk (w.alloc (.cells #[.string ⟨#[]⟩, .string ⟨#[]⟩, .string ⟨#[]⟩] 110)) w.heap.size 110 emp := Blk.new w _ _
  have b0 := below_alloc_ w (.cells #[.string ⟨#[]⟩, .string ⟨#[]⟩, .string ⟨#[]⟩] 110)
  by_cases hroot : D.ns s = D.rootT
  · have hp : D.parse (D.ns s) = some D.rt := by unfold D.parse; rw [if_pos hroot]
    rw [decide_eq_true hroot] at hrt
    have HP := Lib.hid hp
    obtain ⟨⟨c0, c1, c2⟩, f0, f1, f2⟩ := blk3 B2
    have b9 := below_sets b0 (Nat.le_refl _) (.string ⟨#[]⟩) (.string ⟨#[]⟩) (.string ⟨#[]⟩)
    clear hp hroot B2 b0
    go_enter Try.func59, Try.ntmps59
    go_wp2
    refine bodyPost_ret (v := .tuple #[.agg #[.string ⟨#[]⟩, .string ⟨#[]⟩, .string ⟨#[]⟩], .bool true]) (by simp [results, Try.results59, go_sem, *]) rfl ⟨?_, ?_⟩
    · rw [HP.out]; rfl
    · first | exact b9 | exact below_alloc_ _ _
  · rw [decide_eq_false hroot] at hrt
    have cC := Lib.hid (fun w => cut_any s w hs)
    have hlP := lt_cutP hlt
    have hnP : (D.cutP (D.ns s)).length ≤ 100 := Nat.le_trans (D.cutP_len _) hlen
    have hlR := lt_cutR hlt
    have hnR : (D.cutR (D.ns s)).length ≤ 100 := Nat.le_trans (len_cutR _) hlen
    cases hL : D.isL (D.cutP (D.ns s)) with
    | false =>
      have HP := Lib.hid (parse_no hroot hL)
      have cK := Lib.hid (fun w => kind_sb _ hlP hnP w)
      have hsz := D.sb_len (D.cutP (D.ns s))
      have hb : ¬ (kind (D.cutP (D.ns s)) = 1 ∧ 2 ≤ (D.cutP (D.ns s)).length ∧ (D.cutP (D.ns s)).length ≤ 3) := fun ⟨h1, h2, h3⟩ => by
        have : D.isL (D.cutP (D.ns s)) = true := D.isL_iff.2 ⟨by omega, kind_L.1 h1⟩
        rw [hL] at this; cases this
      have hk := kind_in (D.cutP (D.ns s))
      obtain ⟨P, hP⟩ : ∃ P, D.cutP (D.ns s) = P := ⟨_, rfl⟩
      obtain ⟨R, hR⟩ : ∃ R, D.cutR (D.ns s) = R := ⟨_, rfl⟩
      obtain ⟨M, hM⟩ : ∃ M, D.cutM (D.ns s) = M := ⟨_, rfl⟩
      rw [hP] at cK hsz hb hk
      rw [hP, hR, hM] at cC
      clear hP hR hM hL hlP hnP hlR hnR hlt hlen
      obtain ⟨⟨c0, c1, c2⟩, f0, f1, f2⟩ := blk3 B2
      have b0q := fun q => below_drewN_ b0 q
      have C := fun q => cells_drewN c0 c1 c2 f0 f1 f2 q
      clear B2 b0 hroot
      rcases hk with hk | hk | hk
      · rw [hk] at cK
        have cK' : Hid (∀ w : World, Calls Try.prog 65 #[.string (D.sb P)] w fun e w' => e = .returned (.int .i64 0) ∧ w = w') := Lib.hid cK.out
        clear cK
        clear hb
        go_enter Try.func59, Try.ntmps59
        go_wp2_with (first
          | (go_at_call 64; (with_reducible refine (cC.out _).mono ?_); rintro e w1 ⟨rfl, q, rfl⟩)
          | (go_at_call 65; (with_reducible refine (cK'.out _).mono ?_); rintro e wk ⟨rfl, rfl⟩))
        refine bodyPost_ret (v := .tuple #[.agg #[.string ⟨#[]⟩, .string ⟨#[]⟩, .string ⟨#[]⟩], .bool false]) (by simp [results, Try.results59, go_sem, *]) rfl ⟨?_, ?_⟩
        · rw [HP.out]; rfl
        · exact below_sets (b0q _) (Nat.le_refl _) _ _ _
      · rw [hk] at cK
        have cK' : Hid (∀ w : World, Calls Try.prog 65 #[.string (D.sb P)] w fun e w' => e = .returned (.int .i64 1) ∧ w = w') := Lib.hid cK.out
        clear cK
        by_cases h2 : P.length < 2
        · have i1 : ((D.sb P).size : Int) < 2 := by omega
          clear hb hk hsz h2
          go_enter Try.func59, Try.ntmps59
          go_wp2_with (first
            | (go_at_call 64; (with_reducible refine (cC.out _).mono ?_); rintro e w1 ⟨rfl, q, rfl⟩)
            | (go_at_call 65; (with_reducible refine (cK'.out _).mono ?_); rintro e wk ⟨rfl, rfl⟩))
          refine bodyPost_ret (v := .tuple #[.agg #[.string ⟨#[]⟩, .string ⟨#[]⟩, .string ⟨#[]⟩], .bool false]) (by simp [results, Try.results59, go_sem, *]) rfl ⟨?_, ?_⟩
          · rw [HP.out]; rfl
          · exact below_sets (b0q _) (Nat.le_refl _) _ _ _
        · have i1 : ¬ ((D.sb P).size : Int) < 2 := by omega
          have i2 : (2 : Int) ≤ ((D.sb P).size : Int) := by omega
          have i3 : (3 : Int) < ((D.sb P).size : Int) := by omega
          clear hb hk hsz h2
          go_enter Try.func59, Try.ntmps59
          go_wp2_with (first
            | (go_at_call 64; (with_reducible refine (cC.out _).mono ?_); rintro e w1 ⟨rfl, q, rfl⟩)
            | (go_at_call 65; (with_reducible refine (cK'.out _).mono ?_); rintro e wk ⟨rfl, rfl⟩))
          refine bodyPost_ret (v := .tuple #[.agg #[.string ⟨#[]⟩, .string ⟨#[]⟩, .string ⟨#[]⟩], .bool false]) (by simp [results, Try.results59, go_sem, *]) rfl ⟨?_, ?_⟩
          · rw [HP.out]; rfl
          · exact below_sets (b0q _) (Nat.le_refl _) _ _ _
      · rw [hk] at cK
        have cK' : Hid (∀ w : World, Calls Try.prog 65 #[.string (D.sb P)] w fun e w' => e = .returned (.int .i64 2) ∧ w = w') := Lib.hid cK.out
        clear cK
        clear hb
        go_enter Try.func59, Try.ntmps59
        go_wp2_with (first
          | (go_at_call 64; (with_reducible refine (cC.out _).mono ?_); rintro e w1 ⟨rfl, q, rfl⟩)
          | (go_at_call 65; (with_reducible refine (cK'.out _).mono ?_); rintro e wk ⟨rfl, rfl⟩))
        refine bodyPost_ret (v := .tuple #[.agg #[.string ⟨#[]⟩, .string ⟨#[]⟩, .string ⟨#[]⟩], .bool false]) (by simp [results, Try.results59, go_sem, *]) rfl ⟨?_, ?_⟩
        · rw [HP.out]; rfl
        · exact below_sets (b0q _) (Nat.le_refl _) _ _ _
    | true =>
      have hA : Kept (fin ⟨D.low (D.cutP (D.ns s)), [], []⟩ (D.cutR (D.ns s)) (D.cutM (D.ns s)) = D.parse (D.ns s)) := ⟨parse_fin hroot hL⟩
      obtain ⟨hl1, hl2⟩ := D.isL_iff.1 hL
      have cK := Lib.hid (fun w => kind_sb _ hlP hnP w)
      rw [kind_L.2 hl2] at cK
      have cK' : Hid (∀ w : World, Calls Try.prog 65 #[.string (D.sb (D.cutP (D.ns s)))] w fun e w' => e = .returned (.int .i64 1) ∧ w = w') := Lib.hid cK.out
      have cT := Lib.hid (fun w => low_sb _ hlP hnP w)
      have hsz := D.sb_len (D.cutP (D.ns s))
      obtain ⟨P, hP⟩ : ∃ P, D.cutP (D.ns s) = P := ⟨_, rfl⟩
      obtain ⟨R, hR⟩ : ∃ R, D.cutR (D.ns s) = R := ⟨_, rfl⟩
      obtain ⟨M, hM⟩ : ∃ M, D.cutM (D.ns s) = M := ⟨_, rfl⟩
      obtain ⟨ans, hans⟩ : ∃ ans, D.parse (D.ns s) = ans := ⟨_, rfl⟩
      rw [hP] at cK' cT hsz hl1
      rw [hP, hR, hM] at cC
      rw [hP, hR, hM, hans] at hA
      rw [hR] at hlR hnR
      rw [hans]
      clear hP hR hM hL hlP hnP hlt hlen hans cK hl2 hroot
      have i1 : ¬ ((D.sb P).size : Int) < 2 := by omega
      have i2 : (2 : Int) ≤ ((D.sb P).size : Int) := by omega
      have i3 : ((D.sb P).size : Int) ≤ 3 := by omega
      have i4 : ¬ (3 : Int) < ((D.sb P).size : Int) := by omega
      clear hl1 hsz
      go_enter Try.func59, Try.ntmps59
      go_wp2_with (first
        | (go_at_call 64; (with_reducible refine (cC.out _).mono ?_); rintro e w1 ⟨rfl, q, rfl⟩)
        | (go_at_call 65; (with_reducible refine (cK'.out _).mono ?_); rintro e wk ⟨rfl, rfl⟩)
        | (go_at_call 66; (with_reducible refine (cT.out _).mono ?_); rintro e w3 ⟨rfl, b3⟩))
      clear i1 i2 i3 i4 cC cK' cT
      have hz3 : w.heap.size + 1 ≤ w3.heap.size := by have := b3.size; simp at this; omega
      have B2' := (blk_drewN B2 q).on b3
      have b9 := below_on (below_drewN b0 q) (by simp) b3
      have S0 : St w.heap.size w (w3.alloc (.cells (avc ⟨D.low P, [], []⟩) 110)) w.heap.size w3.heap.size ⟨D.low P, [], []⟩ R M ans :=
        ⟨B2'.alloc _, Blk.new _ _ _, hlR, hnR, hA, b9.alloc (by omega) _, by omega, Nat.le_refl _, by omega⟩
      clear B2 b0 B2' b9 b3 hA hlR hnR
      go_loopw [5, 6] (fun rs m wr => ∃ (t : D.Pt) (rest : List Nat) (more : Bool), rs = .string (D.sb rest) ∧ m = .bool more ∧ St w.heap.size w wr w.heap.size w3.heap.size t rest more ans) (fun rs m _ => mz rs m)
      case atStart => exact ⟨_, _, _, rfl, rfl, S0⟩
      case round =>
        clear S0
        obtain ⟨t, rest, more, rfl, rfl, hs⟩ := hrel
        have hwz := hs.bel.size
        cases more with
        | false =>
          have ha : some t = ans := hs.ans.out
          have HA := Lib.hid ha
          obtain ⟨⟨c0, c1, c2⟩, f0, f1, f2⟩ := blk3 hs.b2
          obtain ⟨⟨d0, d1, d2⟩, _⟩ := blk3 hs.b7
          have b9 := below_sets hs.bel hs.hR (.string (D.sb t.l)) (.string (D.sb t.s)) (.string (D.sb t.r))
          clear ha hs
          go_wp2
          refine bodyPost_ret (v := .tuple #[.agg #[.string (D.sb t.l), .string (D.sb t.s), .string (D.sb t.r)], .bool true]) (by simp [results, Try.results59, go_sem, *]) rfl ⟨?_, ?_⟩
          · rw [← HA.out]; rfl
          · exact b9
        | true =>
          have cC := Lib.hid (cut_sb rest hs.lt hs.len)
          have hlP := lt_cutP hs.lt
          have hnP : (D.cutP rest).length ≤ 100 := Nat.le_trans (D.cutP_len _) hs.len
          have hlR := lt_cutR hs.lt
          have hnR : (D.cutR rest).length ≤ 100 := Nat.le_trans (len_cutR _) hs.len
          have cK := fun w => kind_sb _ hlP hnP w
          have cU := Lib.hid (fun w => up_sb _ hlP hnP w)
          have cU1 : Hid (∀ w : World, Calls Try.prog 66 #[.string ((D.sb (D.cutP rest)).extract 0 1), .bool true] w fun e w' => e = .returned (.string (D.sb (D.up ((D.cutP rest).take 1)))) ∧ Below w.heap.size w w') :=
            Lib.hid fun w => by have := up_sb ((D.cutP rest).take 1) (fun b hb => hlP b (List.mem_of_mem_take hb)) (by simp; omega) w; rwa [← sb_take _ 1 hlP] at this
          have cL1 : Hid (∀ w : World, Calls Try.prog 66 #[.string ((D.sb (D.cutP rest)).extract 1 (D.sb (D.cutP rest)).size), .bool false] w fun e w' => e = .returned (.string (D.sb (D.low ((D.cutP rest).drop 1)))) ∧ Below w.heap.size w w') :=
            Lib.hid fun w => by have := low_sb ((D.cutP rest).drop 1) (fun b hb => hlP b (List.mem_of_mem_drop hb)) (by simp; omega) w; rwa [← sb_drop _ 1 hlP] at this
          have hcap : D.sb (D.up ((D.cutP rest).take 1)) ++ D.sb (D.low (D.cutP rest).tail) = D.sb (D.cap (D.cutP rest)) := by rw [← sb_app, ← List.drop_one]; rfl
          have hsum : ¬ 9223372036854775807 < (D.sb (D.up ((D.cutP rest).take 1))).size + (D.sb (D.low (D.cutP rest).tail)).size := by rw [D.sb_len, D.sb_len, D.up_len, D.low_len]; simp; omega
          have hsz := D.sb_len (D.cutP rest)
          have hS1 := fun (h : D.isS (D.cutP rest) = true) hs' hr' => step_s (t := t) h hs' hr'
          have hS2 := fun (h : D.isS (D.cutP rest) = true) hr' => round_none hs.ans (step_s_no (t := t) h hr')
          have hR1 := fun (h : D.isR (D.cutP rest) = true) hr' => step_r (t := t) h hr'
          have hR2 := fun (h : D.isR (D.cutP rest) = true) hr' => round_none hs.ans (step_r_no (t := t) h hr')
          have hN := fun h h' => round_none hs.ans (step_no (t := t) (p := D.cutP rest) h h')
          have hA := fun u hu => round_ans (u := u) hs.ans hu
          have hmz : mz (.string (D.sb (D.cutR rest))) (.bool (D.cutM rest)) < mz (.string (D.sb rest)) (.bool true) := by
            unfold mz
            cases h : D.cutM rest with
            | false => simp
            | true => have := D.cutR_lt h; simp [D.sb_len]; omega
          have HM := Lib.hid hmz
          have hpc := pc (D.cutP rest)
          obtain ⟨P, hP⟩ : ∃ P, D.cutP rest = P := ⟨_, rfl⟩
          obtain ⟨R', hR'⟩ : ∃ R, D.cutR rest = R := ⟨_, rfl⟩
          obtain ⟨M', hM'⟩ : ∃ M, D.cutM rest = M := ⟨_, rfl⟩
          rw [hP] at cK cU cU1 cL1 hcap hsum hsz hS1 hS2 hR1 hR2 hN hA hpc
          rw [hP, hR', hM'] at cC
          rw [hR', hM'] at hA HM
          rw [hR'] at hlR hnR
          clear hP hR' hM' hlP hnP hmz
          have hsq := fun q => st_drew hs q
          have e1 := (empty_of (l := t.s))
          have e2 := (empty_of (l := t.r))
          have HC := Lib.hid hcap
          clear hcap
          rcases hpc with ⟨h, k, n⟩ | ⟨h, k, n⟩ | ⟨h, k, n⟩ | ⟨h, h', k, n, n'⟩ | ⟨h, h', k, n⟩ | ⟨h, h', k⟩
          · have cK' : Hid (∀ w : World, Calls Try.prog 65 #[.string (D.sb P)] w fun e w' => e = .returned (.int .i64 1) ∧ w = w') := Lib.hid (by rw [k] at cK; exact cK)
            have m2 : (((D.sb P).size : Int) == 2) = false := by rw [beq_eq_false_iff_ne]; omega
            have m3 : (((D.sb P).size : Int) == 3) = false := by rw [beq_eq_false_iff_ne]; omega
            have m4 : (((D.sb P).size : Int) == 4) = true := by rw [beq_iff_eq]; omega
            have p1 : 1 ≤ (D.sb P).size := by omega
            have p2 : (1 : Int) ≤ ((D.sb P).size : Int) := by omega
            by_cases hs0 : t.s = []
            · have x1 := e1.1 hs0
              by_cases hr0 : t.r = []
              · have x2 := e2.1 hr0
                have HST := hA _ (hS1 h hs0 hr0)
                clear hS1 hS2 hR1 hR2 hN hA hs hsz cK cU e1 e2 hs0 hr0
                go_wp2_with (first
                  | (go_at_call 64; (with_reducible refine (cC.out _).mono ?_); rintro e w1 ⟨rfl, q, rfl⟩; have hs1 := hsq q; obtain ⟨⟨c0, c1, c2⟩, f0, f1, f2⟩ := blk3 hs1.b2; obtain ⟨⟨d0, d1, d2⟩, g0, g1, g2⟩ := blk3 hs1.b7)
                  | (go_at_call 65; (with_reducible refine (cK'.out _).mono ?_); rintro e wk ⟨rfl, rfl⟩))
                refine wp_region_noPanic ?_
                refine wp_region_held_drew (S := fun _ => True) (by kernel_rfl) trivial (fun _ => ?_)
                refine takeS 0 (some 80) ?va0 (by kernel_rfl) (by kernel_rfl) (by kernel_rfl) (by kernel_rfl) (fun _ _ _ h => h) (by rfl) ?hya0 trivial ?resta0
                case hya0 => (intro o ho W hW; simp only [List.getElem?_toArray, List.getElem?_cons_succ, List.getElem?_cons_zero, Option.some.injEq] at ho; subst ho; (try dsimp only at hW); skip; go_simp; try rfl)
                try simp only [Act.put, List.setIfInBounds_toArray, List.set_cons_zero, List.set_cons_succ]
                refine takeS 1 (some 81) ?va1 (by kernel_rfl) (by kernel_rfl) (by kernel_rfl) (by kernel_rfl) (fun _ _ _ h => h) (by rfl) ?hya1 trivial ?resta1
                case hya1 => (intro o ho W hW; simp only [List.getElem?_toArray, List.getElem?_cons_succ, List.getElem?_cons_zero, Option.some.injEq] at ho; subst ho; (try dsimp only at hW); skip; go_simp; try rfl)
                try simp only [Act.put, List.setIfInBounds_toArray, List.set_cons_zero, List.set_cons_succ]
                refine takeS 3 (some 83) ?va3 (by kernel_rfl) (by kernel_rfl) (by kernel_rfl) (by kernel_rfl) (fun _ _ _ h => h) (by rfl) ?hya3 trivial ?resta3
                case hya3 => (intro o ho W hW; simp only [List.getElem?_toArray, List.getElem?_cons_succ, List.getElem?_cons_zero, Option.some.injEq] at ho; subst ho; (try dsimp only at hW); skip; go_simp; try rfl)
                try simp only [Act.put, List.setIfInBounds_toArray, List.set_cons_zero, List.set_cons_succ]
                refine takeS 4 (some 84) ?va4 (by kernel_rfl) (by kernel_rfl) (by kernel_rfl) (by kernel_rfl) (fun _ _ _ h => h) (by rfl) ?hya4 trivial ?resta4
                case hya4 => (intro o ho W hW; simp only [List.getElem?_toArray, List.getElem?_cons_succ, List.getElem?_cons_zero, Option.some.injEq] at ho; subst ho; (try dsimp only at hW); skip; go_simp; try rfl)
                try simp only [Act.put, List.setIfInBounds_toArray, List.set_cons_zero, List.set_cons_succ]
                refine nextS 2 (by kernel_rfl) (by rfl) (fun o ho K hK => ?_)
                simp only [List.getElem?_toArray, List.getElem?_cons_succ, List.getElem?_cons_zero, Option.some.injEq] at ho; subst ho
                go_simp
                (go_at_call 66; (with_reducible refine (cU1.out _).mono ?_); rintro e w4 ⟨rfl, b4⟩)
                have hs4 := st_on (st_drew hs1 1) b4 hwz
                refine hK.out _ _ trivial (fun _ => ?_)
                clear hK K
                try simp only [Act.put, List.setIfInBounds_toArray, List.set_cons_zero, List.set_cons_succ]
                refine nextS 5 (by kernel_rfl) (by rfl) (fun o ho K hK => ?_)
                simp only [List.getElem?_toArray, List.getElem?_cons_succ, List.getElem?_cons_zero, Option.some.injEq] at ho; subst ho
                go_simp
                (go_at_call 66; (with_reducible refine (cL1.out _).mono ?_); rintro e w5 ⟨rfl, b5⟩)
                have hs5 := st_on hs4 b5 hs4.bel.size
                obtain ⟨⟨c0', c1', c2'⟩, f0', f1', f2'⟩ := blk3 hs5.b2
                obtain ⟨⟨d0', d1', d2'⟩, g0', g1', g2'⟩ := blk3 hs5.b7
                refine hK.out _ _ trivial (fun _ => ?_)
                clear hK K
                try simp only [Act.put, List.setIfInBounds_toArray, List.set_cons_zero, List.set_cons_succ]
                refine takeS 6 (some 86) ?vb6 (by kernel_rfl) (by kernel_rfl) (by kernel_rfl) (by kernel_rfl) (fun _ _ _ h => h) (by rfl) ?hyb6 trivial ?restb6
                case hyb6 => (intro o ho W hW; simp only [List.getElem?_toArray, List.getElem?_cons_succ, List.getElem?_cons_zero, Option.some.injEq] at ho; subst ho; (try dsimp only at hW); have hsum2 := hsum; go_simp; try rfl)
                try simp only [Act.put, List.setIfInBounds_toArray, List.set_cons_zero, List.set_cons_succ]
                refine takeS 7 (some 87) ?vb7 (by kernel_rfl) (by kernel_rfl) (by kernel_rfl) (by kernel_rfl) (fun _ _ _ h => h) (by rfl) ?hyb7 trivial ?restb7
                case hyb7 => (intro o ho W hW; simp only [List.getElem?_toArray, List.getElem?_cons_succ, List.getElem?_cons_zero, Option.some.injEq] at ho; subst ho; (try dsimp only at hW); skip; go_simp; try rfl)
                try simp only [Act.put, List.setIfInBounds_toArray, List.set_cons_zero, List.set_cons_succ]
                refine nextS 8 (by kernel_rfl) (by rfl) (fun o ho K hK => ?_)
                simp only [List.getElem?_toArray, List.getElem?_cons_succ, List.getElem?_cons_zero, Option.some.injEq] at ho; subst ho
                go_simp
                refine hK.out _ _ trivial (fun _ => ?_)
                clear hK K
                try simp only [Act.put, List.setIfInBounds_toArray, List.set_cons_zero, List.set_cons_succ]
                refine wpAnyH_done (by kernel_rfl) ?_ _
                refine NoPanic.normal ?_
                have hs6 := st_put hs5 1 (.string (D.sb (D.cap P))) (u := ⟨t.l, D.cap P, t.r⟩) (by rfl) hlR hnR HST
                rw [← HC.out] at hs6
                clear c0 c1 c2 f0 f1 f2 d0 d1 d2 g0 g1 g2 hs1 hs4 hs5 b4 b5 c0' c1' c2' f0' f1' f2' d0' d1' d2' g0' g1' g2'
                go_wp2
                go_roundw
                case rel => exact ⟨_, _, _, rfl, rfl, hs6⟩
                case measure => exact HM.out
              · have x2 := e2.2 hr0
                have HNo := Lib.hid (hS2 h (.inr hr0))
                clear hS1 hS2 hR1 hR2 hN hA hs hsz cK cU cU1 cL1 HC e1 e2 HM hlR hnR
                (try clear hr0); (try clear hs0)
                go_wp2_with (first
                  | (go_at_call 64; (with_reducible refine (cC.out _).mono ?_); rintro e w1 ⟨rfl, q, rfl⟩; have hs1 := hsq q; obtain ⟨⟨c0, c1, c2⟩, f0, f1, f2⟩ := blk3 hs1.b2; obtain ⟨⟨d0, d1, d2⟩, g0, g1, g2⟩ := blk3 hs1.b7)
                  | (go_at_call 65; (with_reducible refine (cK'.out _).mono ?_); rintro e wk ⟨rfl, rfl⟩))
                refine bodyPost_ret (v := .tuple #[.agg #[.string ⟨#[]⟩, .string ⟨#[]⟩, .string ⟨#[]⟩], .bool false]) (by simp [results, Try.results59, go_sem, *]) rfl ⟨?_, ?_⟩
                · rw [HNo.out]; rfl
                · exact below_sets hs1.bel hs1.hR _ _ _
            · have x1 := e1.2 hs0
              have HNo := Lib.hid (hS2 h (.inl hs0))
              clear hS1 hS2 hR1 hR2 hN hA hs hsz cK cU cU1 cL1 HC e1 e2 HM hlR hnR
              (try clear hr0); (try clear hs0)
              go_wp2_with (first
                | (go_at_call 64; (with_reducible refine (cC.out _).mono ?_); rintro e w1 ⟨rfl, q, rfl⟩; have hs1 := hsq q; obtain ⟨⟨c0, c1, c2⟩, f0, f1, f2⟩ := blk3 hs1.b2; obtain ⟨⟨d0, d1, d2⟩, g0, g1, g2⟩ := blk3 hs1.b7)
                | (go_at_call 65; (with_reducible refine (cK'.out _).mono ?_); rintro e wk ⟨rfl, rfl⟩))
              refine bodyPost_ret (v := .tuple #[.agg #[.string ⟨#[]⟩, .string ⟨#[]⟩, .string ⟨#[]⟩], .bool false]) (by simp [results, Try.results59, go_sem, *]) rfl ⟨?_, ?_⟩
              · rw [HNo.out]; rfl
              · exact below_sets hs1.bel hs1.hR _ _ _
          · have cK' : Hid (∀ w : World, Calls Try.prog 65 #[.string (D.sb P)] w fun e w' => e = .returned (.int .i64 1) ∧ w = w') := Lib.hid (by rw [k] at cK; exact cK)
            have m2 : (((D.sb P).size : Int) == 2) = true := by rw [beq_iff_eq]; omega
            have m3 : (((D.sb P).size : Int) == 3) = false := by rw [beq_eq_false_iff_ne]; omega
            have m4 : (((D.sb P).size : Int) == 4) = false := by rw [beq_eq_false_iff_ne]; omega
            by_cases hr0 : t.r = []
            · have x2 := e2.1 hr0
              have HST := hA _ (hR1 h hr0)
              clear hS1 hS2 hR1 hR2 hN hA hs hsz cK cU1 cL1 HC e1 e2 hr0
              go_wp2_with (first
                | (go_at_call 64; (with_reducible refine (cC.out _).mono ?_); rintro e w1 ⟨rfl, q, rfl⟩; have hs1 := hsq q; obtain ⟨⟨c0, c1, c2⟩, f0, f1, f2⟩ := blk3 hs1.b2; obtain ⟨⟨d0, d1, d2⟩, g0, g1, g2⟩ := blk3 hs1.b7)
                | (go_at_call 65; (with_reducible refine (cK'.out _).mono ?_); rintro e wk ⟨rfl, rfl⟩)
                | (go_at_call 66; (with_reducible refine (cU.out _).mono ?_); rintro e w4 ⟨rfl, b4⟩; have hs4 := st_on hs1 b4 hwz; obtain ⟨⟨c0', c1', c2'⟩, f0', f1', f2'⟩ := blk3 hs4.b2; obtain ⟨⟨d0', d1', d2'⟩, g0', g1', g2'⟩ := blk3 hs4.b7))
              have hs6 := st_put hs4 2 (.string (D.sb (D.up P))) (u := ⟨t.l, t.s, D.up P⟩) (by rfl) hlR hnR HST
              go_roundw
              case rel => exact ⟨_, _, _, rfl, rfl, hs6⟩
              case measure => exact HM.out
            · have x2 := e2.2 hr0
              have HNo := Lib.hid (hR2 h hr0)
              clear hS1 hS2 hR1 hR2 hN hA hs hsz cK cU cU1 cL1 HC e1 e2 HM hlR hnR
              (try clear hr0); (try clear hs0)
              go_wp2_with (first
                | (go_at_call 64; (with_reducible refine (cC.out _).mono ?_); rintro e w1 ⟨rfl, q, rfl⟩; have hs1 := hsq q; obtain ⟨⟨c0, c1, c2⟩, f0, f1, f2⟩ := blk3 hs1.b2; obtain ⟨⟨d0, d1, d2⟩, g0, g1, g2⟩ := blk3 hs1.b7)
                | (go_at_call 65; (with_reducible refine (cK'.out _).mono ?_); rintro e wk ⟨rfl, rfl⟩))
              refine bodyPost_ret (v := .tuple #[.agg #[.string ⟨#[]⟩, .string ⟨#[]⟩, .string ⟨#[]⟩], .bool false]) (by simp [results, Try.results59, go_sem, *]) rfl ⟨?_, ?_⟩
              · rw [HNo.out]; rfl
              · exact below_sets hs1.bel hs1.hR _ _ _
          · have cK' : Hid (∀ w : World, Calls Try.prog 65 #[.string (D.sb P)] w fun e w' => e = .returned (.int .i64 2) ∧ w = w') := Lib.hid (by rw [k] at cK; exact cK)
            have m2 : (((D.sb P).size : Int) == 2) = false := by rw [beq_eq_false_iff_ne]; omega
            have m3 : (((D.sb P).size : Int) == 3) = true := by rw [beq_iff_eq]; omega
            have m4 : (((D.sb P).size : Int) == 4) = false := by rw [beq_eq_false_iff_ne]; omega
            by_cases hr0 : t.r = []
            · have x2 := e2.1 hr0
              have HST := hA _ (hR1 h hr0)
              clear hS1 hS2 hR1 hR2 hN hA hs hsz cK cU1 cL1 HC e1 e2 hr0
              go_wp2_with (first
                | (go_at_call 64; (with_reducible refine (cC.out _).mono ?_); rintro e w1 ⟨rfl, q, rfl⟩; have hs1 := hsq q; obtain ⟨⟨c0, c1, c2⟩, f0, f1, f2⟩ := blk3 hs1.b2; obtain ⟨⟨d0, d1, d2⟩, g0, g1, g2⟩ := blk3 hs1.b7)
                | (go_at_call 65; (with_reducible refine (cK'.out _).mono ?_); rintro e wk ⟨rfl, rfl⟩)
                | (go_at_call 66; (with_reducible refine (cU.out _).mono ?_); rintro e w4 ⟨rfl, b4⟩; have hs4 := st_on hs1 b4 hwz; obtain ⟨⟨c0', c1', c2'⟩, f0', f1', f2'⟩ := blk3 hs4.b2; obtain ⟨⟨d0', d1', d2'⟩, g0', g1', g2'⟩ := blk3 hs4.b7))
              have hs6 := st_put hs4 2 (.string (D.sb (D.up P))) (u := ⟨t.l, t.s, D.up P⟩) (by rfl) hlR hnR HST
              go_roundw
              case rel => exact ⟨_, _, _, rfl, rfl, hs6⟩
              case measure => exact HM.out
            · have x2 := e2.2 hr0
              have HNo := Lib.hid (hR2 h hr0)
              clear hS1 hS2 hR1 hR2 hN hA hs hsz cK cU cU1 cL1 HC e1 e2 HM hlR hnR
              (try clear hr0); (try clear hs0)
              go_wp2_with (first
                | (go_at_call 64; (with_reducible refine (cC.out _).mono ?_); rintro e w1 ⟨rfl, q, rfl⟩; have hs1 := hsq q; obtain ⟨⟨c0, c1, c2⟩, f0, f1, f2⟩ := blk3 hs1.b2; obtain ⟨⟨d0, d1, d2⟩, g0, g1, g2⟩ := blk3 hs1.b7)
                | (go_at_call 65; (with_reducible refine (cK'.out _).mono ?_); rintro e wk ⟨rfl, rfl⟩))
              refine bodyPost_ret (v := .tuple #[.agg #[.string ⟨#[]⟩, .string ⟨#[]⟩, .string ⟨#[]⟩], .bool false]) (by simp [results, Try.results59, go_sem, *]) rfl ⟨?_, ?_⟩
              · rw [HNo.out]; rfl
              · exact below_sets hs1.bel hs1.hR _ _ _
          · have cK' : Hid (∀ w : World, Calls Try.prog 65 #[.string (D.sb P)] w fun e w' => e = .returned (.int .i64 1) ∧ w = w') := Lib.hid (by rw [k] at cK; exact cK)
            have m2 : (((D.sb P).size : Int) == 2) = false := by rw [beq_eq_false_iff_ne]; omega
            have m4 : (((D.sb P).size : Int) == 4) = false := by rw [beq_eq_false_iff_ne]; omega
            have HNo := Lib.hid (hN h h')
            clear hS1 hS2 hR1 hR2 hN hA hs hsz cK cU cU1 cL1 HC e1 e2 HM hlR hnR
            (try clear hr0); (try clear hs0)
            go_wp2_with (first
              | (go_at_call 64; (with_reducible refine (cC.out _).mono ?_); rintro e w1 ⟨rfl, q, rfl⟩; have hs1 := hsq q; obtain ⟨⟨c0, c1, c2⟩, f0, f1, f2⟩ := blk3 hs1.b2; obtain ⟨⟨d0, d1, d2⟩, g0, g1, g2⟩ := blk3 hs1.b7)
              | (go_at_call 65; (with_reducible refine (cK'.out _).mono ?_); rintro e wk ⟨rfl, rfl⟩))
            refine bodyPost_ret (v := .tuple #[.agg #[.string ⟨#[]⟩, .string ⟨#[]⟩, .string ⟨#[]⟩], .bool false]) (by simp [results, Try.results59, go_sem, *]) rfl ⟨?_, ?_⟩
            · rw [HNo.out]; rfl
            · exact below_sets hs1.bel hs1.hR _ _ _
          · have cK' : Hid (∀ w : World, Calls Try.prog 65 #[.string (D.sb P)] w fun e w' => e = .returned (.int .i64 2) ∧ w = w') := Lib.hid (by rw [k] at cK; exact cK)
            have m3 : (((D.sb P).size : Int) == 3) = false := by rw [beq_eq_false_iff_ne]; omega
            have HNo := Lib.hid (hN h h')
            clear hS1 hS2 hR1 hR2 hN hA hs hsz cK cU cU1 cL1 HC e1 e2 HM hlR hnR
            (try clear hr0); (try clear hs0)
            go_wp2_with (first
              | (go_at_call 64; (with_reducible refine (cC.out _).mono ?_); rintro e w1 ⟨rfl, q, rfl⟩; have hs1 := hsq q; obtain ⟨⟨c0, c1, c2⟩, f0, f1, f2⟩ := blk3 hs1.b2; obtain ⟨⟨d0, d1, d2⟩, g0, g1, g2⟩ := blk3 hs1.b7)
              | (go_at_call 65; (with_reducible refine (cK'.out _).mono ?_); rintro e wk ⟨rfl, rfl⟩))
            refine bodyPost_ret (v := .tuple #[.agg #[.string ⟨#[]⟩, .string ⟨#[]⟩, .string ⟨#[]⟩], .bool false]) (by simp [results, Try.results59, go_sem, *]) rfl ⟨?_, ?_⟩
            · rw [HNo.out]; rfl
            · exact below_sets hs1.bel hs1.hR _ _ _
          · have cK' : Hid (∀ w : World, Calls Try.prog 65 #[.string (D.sb P)] w fun e w' => e = .returned (.int .i64 0) ∧ w = w') := Lib.hid (by rw [k] at cK; exact cK)
            have HNo := Lib.hid (hN h h')
            clear hS1 hS2 hR1 hR2 hN hA hs hsz cK cU cU1 cL1 HC e1 e2 HM hlR hnR
            (try clear hr0); (try clear hs0)
            go_wp2_with (first
              | (go_at_call 64; (with_reducible refine (cC.out _).mono ?_); rintro e w1 ⟨rfl, q, rfl⟩; have hs1 := hsq q; obtain ⟨⟨c0, c1, c2⟩, f0, f1, f2⟩ := blk3 hs1.b2; obtain ⟨⟨d0, d1, d2⟩, g0, g1, g2⟩ := blk3 hs1.b7)
              | (go_at_call 65; (with_reducible refine (cK'.out _).mono ?_); rintro e wk ⟨rfl, rfl⟩))
            refine bodyPost_ret (v := .tuple #[.agg #[.string ⟨#[]⟩, .string ⟨#[]⟩, .string ⟨#[]⟩], .bool false]) (by simp [results, Try.results59, go_sem, *]) rfl ⟨?_, ?_⟩
            · rw [HNo.out]; rfl
            · exact below_sets hs1.bel hs1.hR _ _ _
end Go.Proofs.Ytkhjnfplcaffnaa
set_option linter.unusedVariables false
set_option linter.unusedSimpArgs false
namespace Go.Proofs.Ytkhjnfplcaffnaa
open Go.RowKit
attribute [local go_sem ↓] Go.wp_at_zero Go.wp_at_succ ld_a ld_n st_a st_n eq_a eq_n ne_a ne_n lv_a lv_n lp_3 lp_4
attribute [local go_sem] run_ld_a run_ld_n run_sw_a run_sw_n run_eq_a run_eq_n run_ne_a run_ne_n run_lv_a run_lv_n st_z ne_z eq_z rd_new rd_old rd_drew rd_drewN rd_set tn_new tn_old tn_drew tn_drewN setRow_alloc run_lp_3 run_lp_4 rd_ext cell_ext

theorem can_lt {p : D.Pt} (h : D.Can p) : (∀ b ∈ p.l, b < 256) ∧ (∀ b ∈ p.s, b < 256) ∧ (∀ b ∈ p.r, b < 256) :=
  ⟨D.ch_lt (D.can_ch h).1, D.ch_lt (D.can_ch h).2.1, D.ch_lt (D.can_ch h).2.2⟩
theorem can_sb {p : D.Pt} (h : D.Can p) : (⟨D.ns (D.sb p.l), D.ns (D.sb p.s), D.ns (D.sb p.r)⟩ : D.Pt) = p := by
  obtain ⟨h1, h2, h3⟩ := can_lt h
  rw [D.ns_sb h1, D.ns_sb h2, D.ns_sb h3]
theorem sb_size {l : List Nat} (h : l.length ≤ 4) : (D.sb l).size ≤ 100 := by rw [D.sb_len]; omega
theorem rtx_can {p : D.Pt} (h : D.Can p) (w : World) : Calls Try.prog 60 #[av p] w fun e w' => e = .returned (.string (D.sb (D.txt p))) ∧ Below w.heap.size w w' := by
  obtain ⟨h1, h2, h3⟩ := D.can_len h
  have := ref_text (D.sb p.l) (D.sb p.s) (D.sb p.r) w (sb_size (by omega)) (sb_size (by omega)) (sb_size (by omega))
  rw [can_sb h] at this
  exact this
theorem ext_size_le (u : ByteArray) (m : Nat) : (u.extract 0 m).size ≤ m := by simp [ByteArray.size_extract]; omega
end Go.Proofs.Ytkhjnfplcaffnaa
set_option linter.unusedVariables false
set_option linter.unusedSimpArgs false
namespace Go.Proofs.Ytkhjnfplcaffnaa
open Go.RowKit
noncomputable def eqr (u v : Value) : Sem Value := binOp .eql 110 u v
noncomputable def ner (u v : Value) : Sem Value := binOp .neq 110 u v
theorem eq_r (u v : Value) : binOp .eql 110 u v = eqr u v := rfl
theorem ne_r (u v : Value) : binOp .neq 110 u v = ner u v := rfl
def s3 (a b c a' b' c' : ByteArray) : Bool := decide (a = a' ∧ b = b' ∧ c = c')
theorem toList_inj {a b : ByteArray} : a.toList = b.toList ↔ a = b := by
  constructor
  · intro h
    rw [ByteArray.toList_eq, ByteArray.toList_eq] at h
    obtain ⟨⟨x⟩⟩ := a
    obtain ⟨⟨y⟩⟩ := b
    simp at h
    rw [h]
  · intro h; rw [h]
theorem run_eqr (a b c a' b' c' : ByteArray) (w : World) : (eqr (.agg #[.string a, .string b, .string c]) (.agg #[.string a', .string b', .string c'])).run Try.prog w = .ok (.bool (s3 a b c a' b' c')) w := by
  unfold eqr s3
  simp [go_sem, toList_inj]
  by_cases h1 : a = a' <;> by_cases h2 : b = b' <;> by_cases h3 : c = c' <;> simp [h1, h2, h3]
theorem run_ner (a b c a' b' c' : ByteArray) (w : World) : (ner (.agg #[.string a, .string b, .string c]) (.agg #[.string a', .string b', .string c'])).run Try.prog w = .ok (.bool (!s3 a b c a' b' c')) w := by
  have h := run_eqr a b c a' b' c' w
  unfold eqr at h
  unfold ner
  simp only [binOp] at h ⊢
  rw [Sem.run_bind] at h ⊢
  cases hq : (Op.equal 110 (.agg #[.string a, .string b, .string c]) (.agg #[.string a', .string b', .string c'])).run Try.prog w with
  | ok b w' =>
    rw [hq] at h
    simp [Result.andThen, Sem.run_pure] at h ⊢
    obtain ⟨rfl, rfl⟩ := h
    simp
  | _ => rw [hq] at h; simp [Result.andThen] at h
attribute [local go_sem ↓] Go.wp_at_zero Go.wp_at_succ eq_r ne_r
attribute [local go_sem] run_eqr run_ner

theorem pl_len (x : D.Tg) : (D.pl x).length = 3 := by have := x.len; simp [D.pl]; omega
theorem ps_len (x : D.Tg) : (D.ps x).length = 4 := by have := x.len; simp [D.ps]; omega
theorem pr_len (x : D.Tg) : (D.pr x).length = 3 := by have := x.len; simp [D.pr]; omega
theorem blk3_set {w : World} {g : Nat} {t : TypeId} {a b c : Value} (h : Blk w g t #[a, b, c]) (u v z : Value) : Blk (((w.setCell ⟨g, 0, none⟩ u).setCell ⟨g, 1, none⟩ v).setCell ⟨g, 2, none⟩ z) g t #[u, v, z] :=
  ((h.put 0 u).put 1 v).put 2 z
theorem blk3_far {w : World} {g g' : Nat} {t : TypeId} {cs : Array Value} (h : Blk w g t cs) (hg : g ≠ g') (u v z : Value) : Blk (((w.setCell ⟨g', 0, none⟩ u).setCell ⟨g', 1, none⟩ v).setCell ⟨g', 2, none⟩ z) g t cs :=
  ((h.far (p := ⟨g', 0, none⟩) hg u).far (p := ⟨g', 1, none⟩) hg v).far (p := ⟨g', 2, none⟩) hg z
theorem front_le (l : List Nat) : (D.front l).length ≤ l.length := by
  unfold D.front
  rw [List.length_reverse]
  exact Nat.le_trans (List.dropWhile_suffix _).length_le (by simp)
theorem txt_lt' {p : D.Pt} (h1 : ∀ b ∈ p.l, b < 256) (h2 : ∀ b ∈ p.s, b < 256) (h3 : ∀ b ∈ p.r, b < 256) : ∀ b ∈ D.txt p, b < 256 := by
  intro b hb
  unfold D.txt at hb
  split at hb
  · revert b; decide
  · rcases List.mem_append.1 hb with hb | hb
    · exact h1 b hb
    · rcases List.mem_append.1 hb with hb | hb
      · split at hb
        · cases hb
        · rcases List.mem_cons.1 hb with rfl | hb
          · decide
          · exact h2 b hb
      · split at hb
        · cases hb
        · rcases List.mem_cons.1 hb with rfl | hb
          · decide
          · exact h3 b hb
theorem txt_le {p : D.Pt} (h1 : p.l.length ≤ 3) (h2 : p.s.length ≤ 4) (h3 : p.r.length ≤ 3) : (D.txt p).length ≤ 100 := by
  unfold D.txt
  split
  · decide
  · simp only [List.length_append]
    split <;> split <;> simp <;> omega
theorem frt_le (x : D.Tg) : (D.frt x).l.length ≤ 3 ∧ (D.frt x).s.length ≤ 4 ∧ (D.frt x).r.length ≤ 3 :=
  ⟨by have := front_le (D.pl x); rw [pl_len] at this; exact this, by have := front_le (D.ps x); rw [ps_len] at this; exact this, by have := front_le (D.pr x); rw [pr_len] at this; exact this⟩
theorem s3_iff {p q : D.Pt} (hp : (∀ b ∈ p.l, b < 256) ∧ (∀ b ∈ p.s, b < 256) ∧ (∀ b ∈ p.r, b < 256)) (hq : (∀ b ∈ q.l, b < 256) ∧ (∀ b ∈ q.s, b < 256) ∧ (∀ b ∈ q.r, b < 256)) :
    s3 (D.sb p.l) (D.sb p.s) (D.sb p.r) (D.sb q.l) (D.sb q.s) (D.sb q.r) = decide (p = q) := by
  unfold s3
  rw [decide_eq_decide]
  constructor
  · rintro ⟨h1, h2, h3⟩
    obtain ⟨l, s, r⟩ := p
    obtain ⟨l', s', r'⟩ := q
    have e1 := D.sb_inj hp.1 hq.1 h1
    have e2 := D.sb_inj hp.2.1 hq.2.1 h2
    have e3 := D.sb_inj hp.2.2 hq.2.2 h3
    simp only at e1 e2 e3
    rw [e1, e2, e3]
  · intro h; rw [h]; exact ⟨rfl, rfl, rfl⟩
def pickr (o : Option D.Pt) (a b c : ByteArray) (y : D.Pt) : Option D.Pt := match o with
  | none => none
  | some q => if s3 (D.sb q.l) (D.sb q.s) (D.sb q.r) a b c then some y else none
/-- What the tail of Of asks. -/
structure Ofs (x : D.Tg) (a b c u : ByteArray) (o : Option D.Pt) : Prop where
  text : ∀ w, Calls Try.prog 60 #[.agg #[.string a, .string b, .string c]] w fun e w' => e = .returned (.string u) ∧ Below w.heap.size w w'
  parse : ∀ w, Calls Try.prog 59 #[.string u] w fun e w' => e = .returned (.tuple #[av (o.getD D.rt), .bool o.isSome]) ∧ Below w.heap.size w w'
  none_ : a.toList.isEmpty = true → D.rof x = if s3 a b c ⟨#[]⟩ ⟨#[]⟩ ⟨#[]⟩ then some D.rt else none
  some_ : a.toList.isEmpty = false → D.rof x = pickr o a b c (D.frt x)
theorem ofs_any (x : D.Tg) : ∃ u o, Ofs x (D.sb (D.front (D.pl x))) (D.sb (D.front (D.ps x))) (D.sb (D.front (D.pr x))) u o := by
  have hlt := D.frt_lt x
  obtain ⟨h1, h2, h3⟩ := frt_le x
  have hs1 : (D.sb (D.frt x).l).size ≤ 100 := by rw [D.sb_len]; omega
  have hs2 : (D.sb (D.frt x).s).size ≤ 100 := by rw [D.sb_len]; omega
  have hs3 : (D.sb (D.frt x).r).size ≤ 100 := by rw [D.sb_len]; omega
  have e : (⟨D.ns (D.sb (D.frt x).l), D.ns (D.sb (D.frt x).s), D.ns (D.sb (D.frt x).r)⟩ : D.Pt) = D.frt x := by
    rw [D.ns_sb hlt.1, D.ns_sb hlt.2.1, D.ns_sb hlt.2.2]
  have htx := txt_lt' hlt.1 hlt.2.1 hlt.2.2
  refine ⟨D.sb (D.txt (D.frt x)), D.parse (D.txt (D.frt x)), ⟨fun w => ?_, fun w => ?_, fun h => ?_, fun h => ?_⟩⟩
  · have := ref_text _ _ _ w hs1 hs2 hs3
    rw [e] at this
    exact this
  · have := ref_parse (D.sb (D.txt (D.frt x))) w (by rw [D.sb_len]; exact txt_le h1 h2 h3)
    rw [D.ns_sb htx] at this
    exact this
  · have hl : (D.frt x).l = [] := by
      have h' : (D.sb (D.frt x).l).toList.isEmpty = true := h
      rw [sb_empty] at h'
      simpa using h'
    have h3 := s3_iff (p := D.frt x) (q := D.rt) hlt ⟨(fun b hb => by cases hb), (fun b hb => by cases hb), (fun b hb => by cases hb)⟩
    unfold D.rof
    rw [if_pos hl]
    have h4 : s3 (D.sb (D.front (D.pl x))) (D.sb (D.front (D.ps x))) (D.sb (D.front (D.pr x))) ⟨#[]⟩ ⟨#[]⟩ ⟨#[]⟩ = decide (D.frt x = D.rt) := h3
    rw [h4]
    by_cases hz : D.frt x = D.rt <;> simp [hz]
  · have hl : (D.frt x).l ≠ [] := by
      have h' : (D.sb (D.frt x).l).toList.isEmpty = false := h
      rw [sb_empty] at h'
      simpa using h'
    unfold D.rof pickr
    rw [if_neg hl]
    cases ho : D.parse (D.txt (D.frt x)) with
    | none => rfl
    | some q =>
      simp only []
      have h3 : s3 (D.sb q.l) (D.sb q.s) (D.sb q.r) (D.sb (D.front (D.pl x))) (D.sb (D.front (D.ps x))) (D.sb (D.front (D.pr x))) = decide (q = D.frt x) := s3_iff (can_lt (D.parse_can ho)) hlt
      rw [h3]
      by_cases hz : q = D.frt x <;> simp [hz]
set_option maxRecDepth 100000 in
set_option maxHeartbeats 8000000 in
theorem rof_any (x : D.Tg) (w : World) : Calls Try.prog 46 #[.agg (nc x)] w fun e w' => e = .returned (.tuple #[av ((D.rof x).getD D.rt), .bool (D.rof x).isSome]) ∧ Below w.heap.size w w' := by
  go_enter Try.func46, Try.ntmps46
  obtain ⟨w0, hw0⟩ : ∃ w0, (w.alloc (.cells (nc x) 38)).alloc (.cells emp 110) = w0 := ⟨_, rfl⟩
  unfold emp at hw0
  have hb0 : Below w.heap.size w w0 := by rw [← hw0]; exact ((Below.refl _ _).alloc (Nat.le_refl _) _).alloc (by simp) _
  have B0 := (Blk.new w 38 (nc x)).alloc (.cells emp 110)
  have B1 : Blk w0 (w.heap.size + 1) 110 emp := by
    have := Blk.new (w.alloc (.cells (nc x) 38)) 110 emp
    rw [World.size_alloc] at this
    unfold emp at this ⊢
    rw [hw0] at this
    exact this
  unfold emp at B0
  rw [hw0] at B0
  go_wp2_with fail
  try rw [hw0]
  have hz0 : w.heap.size + 2 ≤ w0.heap.size := by rw [← hw0]; simp
  clear hw0
  have cA : ∀ W, Blk W w.heap.size 38 (nc x) → Calls Try.prog 58 #[.slice (some ⟨w.heap.size, 0, none⟩) 3 10] W fun e w' => e = .returned (.string (D.sb (D.front (D.pl x)))) ∧ W = w' := fun W hB =>
    front_any _ 3 10 (D.pl x) W (row_part hB).1 (fun b hb => x.lt b (List.mem_of_mem_take hb)) (by decide) (by decide)
  have cB : ∀ W, Blk W w.heap.size 38 (nc x) → Calls Try.prog 58 #[.slice (some ⟨w.heap.size, 3, none⟩) 4 7] W fun e w' => e = .returned (.string (D.sb (D.front (D.ps x)))) ∧ W = w' := fun W hB =>
    front_any _ 4 7 (D.ps x) W (row_part hB).2.1 (fun b hb => x.lt b (List.mem_of_mem_drop (List.mem_of_mem_take hb))) (by decide) (by decide)
  have cC : ∀ W, Blk W w.heap.size 38 (nc x) → Calls Try.prog 58 #[.slice (some ⟨w.heap.size, 7, none⟩) 3 3] W fun e w' => e = .returned (.string (D.sb (D.front (D.pr x)))) ∧ W = w' := fun W hB =>
    front_any _ 3 3 (D.pr x) W (row_part hB).2.2 (fun b hb => x.lt b (List.mem_of_mem_drop hb)) (by decide) (by decide)
  obtain ⟨u, op, hO⟩ := ofs_any x
  obtain ⟨a, ha⟩ : ∃ a, D.sb (D.front (D.pl x)) = a := ⟨_, rfl⟩
  obtain ⟨b, hb⟩ : ∃ b, D.sb (D.front (D.ps x)) = b := ⟨_, rfl⟩
  obtain ⟨c, hc⟩ : ∃ c, D.sb (D.front (D.pr x)) = c := ⟨_, rfl⟩
  rw [ha] at cA
  rw [hb] at cB
  rw [hc] at cC
  have CA := Lib.hid cA
  have CB := Lib.hid cB
  have CC := Lib.hid cC
  have HA := Lib.hid ha
  rw [ha, hb, hc] at hO
  have hfa : ∀ q, D.frt x = q → av q = .agg #[.string a, .string b, .string c] := fun q hq => by subst hq; unfold av D.frt; rw [ha, hb, hc]
  have HF := Lib.hid hfa
  have CT := Lib.hid hO.text
  have CP := Lib.hid hO.parse
  have HN := Lib.hid hO.none_
  have HS := Lib.hid hO.some_
  clear cA cB cC ha hb hc hO hfa HA
  have s0 : (fun W => Blk W w.heap.size 38 (nc x) ∧ Blk W (w.heap.size + 1) 110 #[.string ⟨#[]⟩, .string ⟨#[]⟩, .string ⟨#[]⟩] ∧ Below w.heap.size w W ∧ w.heap.size + 2 ≤ W.heap.size) w0.drew := ⟨⟨B0.out⟩, ⟨B1.out⟩, hb0.drew, hz0⟩
  refine wp_region_noPanic ?_
  refine wp_region_held_drew (S := fun W => Blk W w.heap.size 38 (nc x) ∧ Blk W (w.heap.size + 1) 110 #[.string ⟨#[]⟩, .string ⟨#[]⟩, .string ⟨#[]⟩] ∧ Below w.heap.size w W ∧ w.heap.size + 2 ≤ W.heap.size) (by kernel_rfl) s0 (fun _ => ?_)
  obtain ⟨wd, hwd⟩ : ∃ wd, w0.drew = wd := ⟨_, rfl⟩
  rw [hwd] at s0
  rw [hwd]
  clear hwd hb0 B0 B1 hz0
  have s0z : w.heap.size + 1 < wd.heap.size := s0.2.2.2
  refine takeS 0 (some 7) ?va0 (by kernel_rfl) (by kernel_rfl) (by kernel_rfl) (by kernel_rfl) (fun _ _ _ h => h) (by rfl) ?hya0 s0 ?resta0
  case hya0 => (intro o ho W hW; simp only [List.getElem?_toArray, List.getElem?_cons_succ, List.getElem?_cons_zero, Option.some.injEq] at ho; subst ho; (try dsimp only at hW); skip; go_simp; try rfl)
  try simp only [Act.put, List.setIfInBounds_toArray, List.set_cons_zero, List.set_cons_succ]
  refine takeS 2 (some 9) ?va2 (by kernel_rfl) (by kernel_rfl) (by kernel_rfl) (by kernel_rfl) (fun _ _ _ h => h) (by rfl) ?hya2 s0 ?resta2
  case hya2 => (intro o ho W hW; simp only [List.getElem?_toArray, List.getElem?_cons_succ, List.getElem?_cons_zero, Option.some.injEq] at ho; subst ho; (try dsimp only at hW); skip; go_simp; try rfl)
  try simp only [Act.put, List.setIfInBounds_toArray, List.set_cons_zero, List.set_cons_succ]
  refine takeS 4 (some 11) ?va4 (by kernel_rfl) (by kernel_rfl) (by kernel_rfl) (by kernel_rfl) (fun _ _ _ h => h) (by rfl) ?hya4 s0 ?resta4
  case hya4 => (intro o ho W hW; simp only [List.getElem?_toArray, List.getElem?_cons_succ, List.getElem?_cons_zero, Option.some.injEq] at ho; subst ho; (try dsimp only at hW); skip; go_simp; try rfl)
  try simp only [Act.put, List.setIfInBounds_toArray, List.set_cons_zero, List.set_cons_succ]
  refine forkS 1 7 (by kernel_rfl) (by rfl) (by rfl) (fun o ho K hK => ?_) (fun o ho K hK => ?_)
  · simp only [List.getElem?_toArray, List.getElem?_cons_succ, List.getElem?_cons_zero, Option.some.injEq] at ho; subst ho
    go_simp
    (go_at_call 58; (with_reducible refine (CA.out _ s0.1).mono ?_); rintro e w1 ⟨rfl, rfl⟩)
    refine hK.out _ _ s0 (fun _ => ?_)
    clear hK K
    try simp only [Act.put, List.setIfInBounds_toArray, List.set_cons_zero, List.set_cons_succ]
    refine forkS 3 7 (by kernel_rfl) (by rfl) (by rfl) (fun o ho K hK => ?_) (fun o ho K hK => ?_)
    · simp only [List.getElem?_toArray, List.getElem?_cons_succ, List.getElem?_cons_zero, Option.some.injEq] at ho; subst ho
      go_simp
      (go_at_call 58; (with_reducible refine (CB.out _ s0.1).mono ?_); rintro e w1 ⟨rfl, rfl⟩)
      refine hK.out _ _ s0 (fun _ => ?_)
      clear hK K
      try simp only [Act.put, List.setIfInBounds_toArray, List.set_cons_zero, List.set_cons_succ]
      refine forkS 5 7 (by kernel_rfl) (by rfl) (by rfl) (fun o ho K hK => ?_) (fun o ho K hK => ?_)
      · simp only [List.getElem?_toArray, List.getElem?_cons_succ, List.getElem?_cons_zero, Option.some.injEq] at ho; subst ho
        go_simp
        (go_at_call 58; (with_reducible refine (CC.out _ s0.1).mono ?_); rintro e w1 ⟨rfl, rfl⟩)
        refine hK.out _ _ s0 (fun _ => ?_)
        clear hK K
        try simp only [Act.put, List.setIfInBounds_toArray, List.set_cons_zero, List.set_cons_succ]
        refine takeS 6 (some 13) ?vb6 (by kernel_rfl) (by kernel_rfl) (by kernel_rfl) (by kernel_rfl) (fun _ _ _ h => h) (by rfl) ?hyb6 s0 ?restb6
        case hyb6 => (intro o ho W hW; simp only [List.getElem?_toArray, List.getElem?_cons_succ, List.getElem?_cons_zero, Option.some.injEq] at ho; subst ho; (try dsimp only at hW); skip; go_simp; try rfl)
        try simp only [Act.put, List.setIfInBounds_toArray, List.set_cons_zero, List.set_cons_succ]
        refine nextS 7 (by kernel_rfl) (by rfl) (fun o ho K hK => ?_)
        simp only [List.getElem?_toArray, List.getElem?_cons_succ, List.getElem?_cons_zero, Option.some.injEq] at ho; subst ho
        go_simp
        have s7 : (fun W => Blk W w.heap.size 38 (nc x) ∧ Blk W (w.heap.size + 1) 110 #[.string ⟨#[]⟩, .string ⟨#[]⟩, .string ⟨#[]⟩] ∧ Below w.heap.size w W ∧ w.heap.size + 2 ≤ W.heap.size) (wd.alloc (.cells #[.string ⟨#[]⟩, .string ⟨#[]⟩, .string ⟨#[]⟩] 110)) := ⟨s0.1.alloc _, s0.2.1.alloc _, s0.2.2.1.alloc s0.2.2.1.size _, Nat.le_trans s0.2.2.2 (below_alloc_ _ _).size⟩
        refine hK.out _ _ s7 (fun _ => ?_)
        clear hK K
        try simp only [Act.put, List.setIfInBounds_toArray, List.set_cons_zero, List.set_cons_succ]
        refine nextS 8 (by kernel_rfl) (by rfl) (fun o ho K hK => ?_)
        simp only [List.getElem?_toArray, List.getElem?_cons_succ, List.getElem?_cons_zero, Option.some.injEq] at ho; subst ho
        go_simp
        have B7 := Blk.new wd 110 #[.string a, .string b, .string c]
        have s8 : (fun W => Blk W w.heap.size 38 (nc x) ∧ Blk W (w.heap.size + 1) 110 #[.string ⟨#[]⟩, .string ⟨#[]⟩, .string ⟨#[]⟩] ∧ Below w.heap.size w W ∧ w.heap.size + 2 ≤ W.heap.size) (wd.alloc (.cells #[.string a, .string b, .string c] 110)) := ⟨s0.1.alloc _, s0.2.1.alloc _, s0.2.2.1.alloc s0.2.2.1.size _, Nat.le_trans s0.2.2.2 (below_alloc_ _ _).size⟩
        refine hK.out _ _ s8 (fun _ => ?_)
        clear hK K
        try simp only [Act.put, List.setIfInBounds_toArray, List.set_cons_zero, List.set_cons_succ]
        refine wpAnyH_done (by kernel_rfl) ?_ _
        refine NoPanic.normal ?_
        obtain ⟨W, hW⟩ : ∃ W, wd.alloc (.cells #[.string a, .string b, .string c] 110) = W := ⟨_, rfl⟩
        have B5 : Blk W wd.heap.size 110 #[.string a, .string b, .string c] := by rw [← hW]; exact Blk.new _ _ _
        rw [hW] at s8
        rw [hW]
        clear hW s0 B7 CA CB CC
        obtain ⟨-, r1, r2, r3⟩ := s8
        have n1 : wd.heap.size ≠ w.heap.size + 1 := Nat.ne_of_gt s0z
        have k5 := blk3 B5
        have k0 := k5.1.1
        have k1 := k5.1.2.1
        have k2 := k5.1.2.2
        cases hae : a.toList.isEmpty with
        | true =>
          have HR := Lib.hid (HN.out hae)
          go_wp2_with fail
          clear k5 k0 k1 k2
          have sq : (fun W => Blk W wd.heap.size 110 #[.string a, .string b, .string c] ∧ Blk W (w.heap.size + 1) 110 #[.string ⟨#[]⟩, .string ⟨#[]⟩, .string ⟨#[]⟩] ∧ Below w.heap.size w W) W.drew := ⟨⟨B5.out⟩, ⟨r1.out⟩, r2.drew⟩
          obtain ⟨⟨c0, c1, c2⟩, f0, f1, f2⟩ := blk3 sq.2.1
          refine wp_region_noPanic ?_
          refine wp_region_held_drew (S := fun W => Blk W wd.heap.size 110 #[.string a, .string b, .string c] ∧ Blk W (w.heap.size + 1) 110 #[.string ⟨#[]⟩, .string ⟨#[]⟩, .string ⟨#[]⟩] ∧ Below w.heap.size w W) (by kernel_rfl) sq (fun _ => ?_)
          obtain ⟨wq, hwq⟩ : ∃ wq, W.drew = wq := ⟨_, rfl⟩
          rw [hwq] at sq c0 c1 c2 f0 f1 f2
          rw [hwq]
          clear hwq
          refine takeS 0 (some 17) ?vqb0 (by kernel_rfl) (by kernel_rfl) (by kernel_rfl) (by kernel_rfl) (fun _ _ _ h => h) (by rfl) ?hyqb0 sq ?restqb0
          case hyqb0 => (intro o ho W hW; simp only [List.getElem?_toArray, List.getElem?_cons_succ, List.getElem?_cons_zero, Option.some.injEq] at ho; subst ho; (try dsimp only at hW); skip; go_simp; try rfl)
          try simp only [Act.put, List.setIfInBounds_toArray, List.set_cons_zero, List.set_cons_succ]
          refine takeS 2 (some 19) ?vqb2 (by kernel_rfl) (by kernel_rfl) (by kernel_rfl) (by kernel_rfl) (fun _ _ _ h => h) (by rfl) ?hyqb2 sq ?restqb2
          case hyqb2 => (intro o ho W hW; simp only [List.getElem?_toArray, List.getElem?_cons_succ, List.getElem?_cons_zero, Option.some.injEq] at ho; subst ho; (try dsimp only at hW); skip; go_simp; try rfl)
          try simp only [Act.put, List.setIfInBounds_toArray, List.set_cons_zero, List.set_cons_succ]
          refine takeS 1 (some 18) ?vqb1 (by kernel_rfl) (by kernel_rfl) (by kernel_rfl) (by kernel_rfl) (fun _ _ _ h => h) (by rfl) ?hyqb1 sq ?restqb1
          case hyqb1 => (intro o ho W hW; simp only [List.getElem?_toArray, List.getElem?_cons_succ, List.getElem?_cons_zero, Option.some.injEq] at ho; subst ho; (try dsimp only at hW); obtain ⟨⟨g0, g1, g2⟩, -⟩ := blk3 hW.1; go_simp; try rfl)
          try simp only [Act.put, List.setIfInBounds_toArray, List.set_cons_zero, List.set_cons_succ]
          refine takeS 3 (some 20) ?vqb3 (by kernel_rfl) (by kernel_rfl) (by kernel_rfl) (by kernel_rfl) (fun _ _ _ h => h) (by rfl) ?hyqb3 sq ?restqb3
          case hyqb3 => (intro o ho W hW; simp only [List.getElem?_toArray, List.getElem?_cons_succ, List.getElem?_cons_zero, Option.some.injEq] at ho; subst ho; (try dsimp only at hW); skip; go_simp; try rfl)
          try simp only [Act.put, List.setIfInBounds_toArray, List.set_cons_zero, List.set_cons_succ]
          refine nextS 4 (by kernel_rfl) (by rfl) (fun o ho K hK => ?_)
          simp only [List.getElem?_toArray, List.getElem?_cons_succ, List.getElem?_cons_zero, Option.some.injEq] at ho; subst ho
          go_simp
          have sr : (fun W => Blk W wd.heap.size 110 #[.string a, .string b, .string c] ∧ Blk W (w.heap.size + 1) 110 #[.string ⟨#[]⟩, .string ⟨#[]⟩, .string ⟨#[]⟩] ∧ Below w.heap.size w W) (((wq.setCell ⟨w.heap.size + 1, 0, none⟩ (.string ⟨#[]⟩)).setCell ⟨w.heap.size + 1, 1, none⟩ (.string ⟨#[]⟩)).setCell ⟨w.heap.size + 1, 2, none⟩ (.string ⟨#[]⟩)) := ⟨blk3_far sq.1 n1 _ _ _, blk3_set sq.2.1 _ _ _, below_sets sq.2.2 (Nat.le_succ _) _ _ _⟩
          refine hK.out _ _ sr (fun _ => ?_)
          clear hK K
          try simp only [Act.put, List.setIfInBounds_toArray, List.set_cons_zero, List.set_cons_succ]
          refine takeS 5 (some 3) ?vqb5 (by kernel_rfl) (by kernel_rfl) (by kernel_rfl) (by kernel_rfl) (fun _ _ _ h => h) (by rfl) ?hyqb5 sr ?restqb5
          case hyqb5 => (intro o ho W hW; simp only [List.getElem?_toArray, List.getElem?_cons_succ, List.getElem?_cons_zero, Option.some.injEq] at ho; subst ho; (try dsimp only at hW); skip; go_simp; try rfl)
          try simp only [Act.put, List.setIfInBounds_toArray, List.set_cons_zero, List.set_cons_succ]
          refine wpAnyH_done (by kernel_rfl) ?_ _
          refine NoPanic.normal ?_
          obtain ⟨W9, hW9⟩ : ∃ W9, ((wq.setCell ⟨w.heap.size + 1, 0, none⟩ (.string ⟨#[]⟩)).setCell ⟨w.heap.size + 1, 1, none⟩ (.string ⟨#[]⟩)).setCell ⟨w.heap.size + 1, 2, none⟩ (.string ⟨#[]⟩) = W9 := ⟨_, rfl⟩
          rw [hW9] at sr
          rw [hW9]
          clear hW9 sq c0 c1 c2 f0 f1 f2
          obtain ⟨⟨c0, c1, c2⟩, -⟩ := blk3 sr.2.1
          go_wp2
          exact bodyPost_ret (v := .tuple #[.agg #[.string ⟨#[]⟩, .string ⟨#[]⟩, .string ⟨#[]⟩], .bool (s3 a b c ⟨#[]⟩ ⟨#[]⟩ ⟨#[]⟩)]) (by simp [results, Try.results46, go_sem, *]) rfl ⟨by rw [HR.out]; cases s3 a b c ⟨#[]⟩ ⟨#[]⟩ ⟨#[]⟩ <;> rfl, sr.2.2⟩
        | false =>
          have HR := Lib.hid (HS.out hae)
          cases op with
          | none =>
            have CQ := Lib.hid (fun W => (show Calls Try.prog 59 #[.string u] W fun e w' => e = .returned (.tuple #[.agg #[.string ⟨#[]⟩, .string ⟨#[]⟩, .string ⟨#[]⟩], .bool false]) ∧ Below W.heap.size W w' from CP.out W))
            go_wp2_with (first
              | (go_at_call 60; (with_reducible refine (CT.out _).mono ?_); rintro e w6 ⟨rfl, b6⟩; have B6 := B5.on b6; have R6 := r1.on b6; have z6 := below_on r2 r2.size b6)
              | (go_at_call 59; (with_reducible refine (CQ.out _).mono ?_); rintro e w7 ⟨rfl, b7⟩; have B8 := (B6.on b7).alloc (.cells #[.string ⟨#[]⟩, .string ⟨#[]⟩, .string ⟨#[]⟩] 110); have R8 := (R6.on b7).alloc (.cells #[.string ⟨#[]⟩, .string ⟨#[]⟩, .string ⟨#[]⟩] 110); have z8 := (below_on z6 z6.size b7).alloc (below_on z6 z6.size b7).size (.cells #[.string ⟨#[]⟩, .string ⟨#[]⟩, .string ⟨#[]⟩] 110); obtain ⟨⟨p0, p1, p2⟩, -⟩ := blk3 B8; obtain ⟨⟨c0, c1, c2⟩, f0, f1, f2⟩ := blk3 R8))
            have R9 := blk3_set R8 (.string ⟨#[]⟩) (.string ⟨#[]⟩) (.string ⟨#[]⟩)
            have z9 := below_sets z8 (Nat.le_succ _) (.string ⟨#[]⟩) (.string ⟨#[]⟩) (.string ⟨#[]⟩)
            clear c0 c1 c2
            obtain ⟨⟨c0, c1, c2⟩, -⟩ := blk3 R9
            exact bodyPost_ret (v := .tuple #[.agg #[.string ⟨#[]⟩, .string ⟨#[]⟩, .string ⟨#[]⟩], .bool false]) (by simp [results, Try.results46, go_sem, *]) rfl ⟨by rw [HR.out]; rfl, z9⟩
          | some q =>
            obtain ⟨a', ha'⟩ : ∃ a', D.sb q.l = a' := ⟨_, rfl⟩
            obtain ⟨b', hb'⟩ : ∃ b', D.sb q.s = b' := ⟨_, rfl⟩
            obtain ⟨c', hc'⟩ : ∃ c', D.sb q.r = c' := ⟨_, rfl⟩
            have CQ := Lib.hid (fun W => (show Calls Try.prog 59 #[.string u] W fun e w' => e = .returned (.tuple #[.agg #[.string a', .string b', .string c'], .bool true]) ∧ Below W.heap.size W w' from by rw [← ha', ← hb', ← hc']; exact CP.out W))
            have hr : D.rof x = if s3 a' b' c' a b c then some (D.frt x) else none := by rw [HR.out, ← ha', ← hb', ← hc']; rfl
            cases hz : s3 a' b' c' a b c with
            | true =>
              rw [hz] at hr
              have HQ := Lib.hid hr
              clear hr
              go_wp2_with (first
                | (go_at_call 60; (with_reducible refine (CT.out _).mono ?_); rintro e w6 ⟨rfl, b6⟩; have B6 := B5.on b6; have R6 := r1.on b6; have z6 := below_on r2 r2.size b6)
                | (go_at_call 59; (with_reducible refine (CQ.out _).mono ?_); rintro e w7 ⟨rfl, b7⟩; have B8 := (B6.on b7).alloc (.cells #[.string a', .string b', .string c'] 110); have R8 := (R6.on b7).alloc (.cells #[.string a', .string b', .string c'] 110); have z8 := (below_on z6 z6.size b7).alloc (below_on z6 z6.size b7).size (.cells #[.string a', .string b', .string c'] 110); obtain ⟨⟨p0, p1, p2⟩, -⟩ := blk3 B8; obtain ⟨⟨c0, c1, c2⟩, f0, f1, f2⟩ := blk3 R8))
              have R9 := blk3_set R8 (.string a) (.string b) (.string c)
              have z9 := below_sets z8 (Nat.le_succ _) (.string a) (.string b) (.string c)
              clear c0 c1 c2
              obtain ⟨⟨c0, c1, c2⟩, -⟩ := blk3 R9
              exact bodyPost_ret (v := .tuple #[.agg #[.string a, .string b, .string c], .bool true]) (by simp [results, Try.results46, go_sem, *]) rfl ⟨by rw [HQ.out]; show _ = Ending.returned (.tuple #[av (D.frt x), .bool true]); rw [HF.out _ rfl], z9⟩
            | false =>
              rw [hz] at hr
              have HQ := Lib.hid hr
              clear hr
              go_wp2_with (first
                | (go_at_call 60; (with_reducible refine (CT.out _).mono ?_); rintro e w6 ⟨rfl, b6⟩; have B6 := B5.on b6; have R6 := r1.on b6; have z6 := below_on r2 r2.size b6)
                | (go_at_call 59; (with_reducible refine (CQ.out _).mono ?_); rintro e w7 ⟨rfl, b7⟩; have B8 := (B6.on b7).alloc (.cells #[.string a', .string b', .string c'] 110); have R8 := (R6.on b7).alloc (.cells #[.string a', .string b', .string c'] 110); have z8 := (below_on z6 z6.size b7).alloc (below_on z6 z6.size b7).size (.cells #[.string a', .string b', .string c'] 110); obtain ⟨⟨p0, p1, p2⟩, -⟩ := blk3 B8; obtain ⟨⟨c0, c1, c2⟩, f0, f1, f2⟩ := blk3 R8))
              have R9 := blk3_set R8 (.string ⟨#[]⟩) (.string ⟨#[]⟩) (.string ⟨#[]⟩)
              have z9 := below_sets z8 (Nat.le_succ _) (.string ⟨#[]⟩) (.string ⟨#[]⟩) (.string ⟨#[]⟩)
              clear c0 c1 c2
              obtain ⟨⟨c0, c1, c2⟩, -⟩ := blk3 R9
              exact bodyPost_ret (v := .tuple #[.agg #[.string ⟨#[]⟩, .string ⟨#[]⟩, .string ⟨#[]⟩], .bool false]) (by simp [results, Try.results46, go_sem, *]) rfl ⟨by rw [HQ.out]; rfl, z9⟩
      · simp only [List.getElem?_toArray, List.getElem?_cons_succ, List.getElem?_cons_zero, Option.some.injEq] at ho; subst ho
        go_simp
        have s7 : (fun W => Blk W w.heap.size 38 (nc x) ∧ Blk W (w.heap.size + 1) 110 #[.string ⟨#[]⟩, .string ⟨#[]⟩, .string ⟨#[]⟩] ∧ Below w.heap.size w W ∧ w.heap.size + 2 ≤ W.heap.size) (wd.alloc (.cells #[.string ⟨#[]⟩, .string ⟨#[]⟩, .string ⟨#[]⟩] 110)) := ⟨s0.1.alloc _, s0.2.1.alloc _, s0.2.2.1.alloc s0.2.2.1.size _, Nat.le_trans s0.2.2.2 (below_alloc_ _ _).size⟩
        refine hK.out _ _ s7 (fun _ => ?_)
        clear hK K
        try simp only [Act.put, List.setIfInBounds_toArray, List.set_cons_zero, List.set_cons_succ]
        refine nextS 5 (by kernel_rfl) (by rfl) (fun o ho K hK => ?_)
        simp only [List.getElem?_toArray, List.getElem?_cons_succ, List.getElem?_cons_zero, Option.some.injEq] at ho; subst ho
        go_simp
        (go_at_call 58; (with_reducible refine (CC.out _ s7.1).mono ?_); rintro e w1 ⟨rfl, rfl⟩)
        refine hK.out _ _ s7 (fun _ => ?_)
        clear hK K
        try simp only [Act.put, List.setIfInBounds_toArray, List.set_cons_zero, List.set_cons_succ]
        refine takeS 6 (some 13) ?vc6 (by kernel_rfl) (by kernel_rfl) (by kernel_rfl) (by kernel_rfl) (fun _ _ _ h => h) (by rfl) ?hyc6 s7 ?restc6
        case hyc6 => (intro o ho W hW; simp only [List.getElem?_toArray, List.getElem?_cons_succ, List.getElem?_cons_zero, Option.some.injEq] at ho; subst ho; (try dsimp only at hW); skip; go_simp; try rfl)
        try simp only [Act.put, List.setIfInBounds_toArray, List.set_cons_zero, List.set_cons_succ]
        refine nextS 8 (by kernel_rfl) (by rfl) (fun o ho K hK => ?_)
        simp only [List.getElem?_toArray, List.getElem?_cons_succ, List.getElem?_cons_zero, Option.some.injEq] at ho; subst ho
        go_simp
        have B7 := Blk.new wd 110 #[.string a, .string b, .string c]
        have s8 : (fun W => Blk W w.heap.size 38 (nc x) ∧ Blk W (w.heap.size + 1) 110 #[.string ⟨#[]⟩, .string ⟨#[]⟩, .string ⟨#[]⟩] ∧ Below w.heap.size w W ∧ w.heap.size + 2 ≤ W.heap.size) (wd.alloc (.cells #[.string a, .string b, .string c] 110)) := ⟨s0.1.alloc _, s0.2.1.alloc _, s0.2.2.1.alloc s0.2.2.1.size _, Nat.le_trans s0.2.2.2 (below_alloc_ _ _).size⟩
        refine hK.out _ _ s8 (fun _ => ?_)
        clear hK K
        try simp only [Act.put, List.setIfInBounds_toArray, List.set_cons_zero, List.set_cons_succ]
        refine wpAnyH_done (by kernel_rfl) ?_ _
        refine NoPanic.normal ?_
        obtain ⟨W, hW⟩ : ∃ W, wd.alloc (.cells #[.string a, .string b, .string c] 110) = W := ⟨_, rfl⟩
        have B5 : Blk W wd.heap.size 110 #[.string a, .string b, .string c] := by rw [← hW]; exact Blk.new _ _ _
        rw [hW] at s8
        rw [hW]
        clear hW s0 B7 CA CB CC
        obtain ⟨-, r1, r2, r3⟩ := s8
        have n1 : wd.heap.size ≠ w.heap.size + 1 := Nat.ne_of_gt s0z
        have k5 := blk3 B5
        have k0 := k5.1.1
        have k1 := k5.1.2.1
        have k2 := k5.1.2.2
        cases hae : a.toList.isEmpty with
        | true =>
          have HR := Lib.hid (HN.out hae)
          go_wp2_with fail
          clear k5 k0 k1 k2
          have sq : (fun W => Blk W wd.heap.size 110 #[.string a, .string b, .string c] ∧ Blk W (w.heap.size + 1) 110 #[.string ⟨#[]⟩, .string ⟨#[]⟩, .string ⟨#[]⟩] ∧ Below w.heap.size w W) W.drew := ⟨⟨B5.out⟩, ⟨r1.out⟩, r2.drew⟩
          obtain ⟨⟨c0, c1, c2⟩, f0, f1, f2⟩ := blk3 sq.2.1
          refine wp_region_noPanic ?_
          refine wp_region_held_drew (S := fun W => Blk W wd.heap.size 110 #[.string a, .string b, .string c] ∧ Blk W (w.heap.size + 1) 110 #[.string ⟨#[]⟩, .string ⟨#[]⟩, .string ⟨#[]⟩] ∧ Below w.heap.size w W) (by kernel_rfl) sq (fun _ => ?_)
          obtain ⟨wq, hwq⟩ : ∃ wq, W.drew = wq := ⟨_, rfl⟩
          rw [hwq] at sq c0 c1 c2 f0 f1 f2
          rw [hwq]
          clear hwq
          refine takeS 0 (some 17) ?vqc0 (by kernel_rfl) (by kernel_rfl) (by kernel_rfl) (by kernel_rfl) (fun _ _ _ h => h) (by rfl) ?hyqc0 sq ?restqc0
          case hyqc0 => (intro o ho W hW; simp only [List.getElem?_toArray, List.getElem?_cons_succ, List.getElem?_cons_zero, Option.some.injEq] at ho; subst ho; (try dsimp only at hW); skip; go_simp; try rfl)
          try simp only [Act.put, List.setIfInBounds_toArray, List.set_cons_zero, List.set_cons_succ]
          refine takeS 2 (some 19) ?vqc2 (by kernel_rfl) (by kernel_rfl) (by kernel_rfl) (by kernel_rfl) (fun _ _ _ h => h) (by rfl) ?hyqc2 sq ?restqc2
          case hyqc2 => (intro o ho W hW; simp only [List.getElem?_toArray, List.getElem?_cons_succ, List.getElem?_cons_zero, Option.some.injEq] at ho; subst ho; (try dsimp only at hW); skip; go_simp; try rfl)
          try simp only [Act.put, List.setIfInBounds_toArray, List.set_cons_zero, List.set_cons_succ]
          refine takeS 1 (some 18) ?vqc1 (by kernel_rfl) (by kernel_rfl) (by kernel_rfl) (by kernel_rfl) (fun _ _ _ h => h) (by rfl) ?hyqc1 sq ?restqc1
          case hyqc1 => (intro o ho W hW; simp only [List.getElem?_toArray, List.getElem?_cons_succ, List.getElem?_cons_zero, Option.some.injEq] at ho; subst ho; (try dsimp only at hW); obtain ⟨⟨g0, g1, g2⟩, -⟩ := blk3 hW.1; go_simp; try rfl)
          try simp only [Act.put, List.setIfInBounds_toArray, List.set_cons_zero, List.set_cons_succ]
          refine takeS 3 (some 20) ?vqc3 (by kernel_rfl) (by kernel_rfl) (by kernel_rfl) (by kernel_rfl) (fun _ _ _ h => h) (by rfl) ?hyqc3 sq ?restqc3
          case hyqc3 => (intro o ho W hW; simp only [List.getElem?_toArray, List.getElem?_cons_succ, List.getElem?_cons_zero, Option.some.injEq] at ho; subst ho; (try dsimp only at hW); skip; go_simp; try rfl)
          try simp only [Act.put, List.setIfInBounds_toArray, List.set_cons_zero, List.set_cons_succ]
          refine nextS 4 (by kernel_rfl) (by rfl) (fun o ho K hK => ?_)
          simp only [List.getElem?_toArray, List.getElem?_cons_succ, List.getElem?_cons_zero, Option.some.injEq] at ho; subst ho
          go_simp
          have sr : (fun W => Blk W wd.heap.size 110 #[.string a, .string b, .string c] ∧ Blk W (w.heap.size + 1) 110 #[.string ⟨#[]⟩, .string ⟨#[]⟩, .string ⟨#[]⟩] ∧ Below w.heap.size w W) (((wq.setCell ⟨w.heap.size + 1, 0, none⟩ (.string ⟨#[]⟩)).setCell ⟨w.heap.size + 1, 1, none⟩ (.string ⟨#[]⟩)).setCell ⟨w.heap.size + 1, 2, none⟩ (.string ⟨#[]⟩)) := ⟨blk3_far sq.1 n1 _ _ _, blk3_set sq.2.1 _ _ _, below_sets sq.2.2 (Nat.le_succ _) _ _ _⟩
          refine hK.out _ _ sr (fun _ => ?_)
          clear hK K
          try simp only [Act.put, List.setIfInBounds_toArray, List.set_cons_zero, List.set_cons_succ]
          refine takeS 5 (some 3) ?vqc5 (by kernel_rfl) (by kernel_rfl) (by kernel_rfl) (by kernel_rfl) (fun _ _ _ h => h) (by rfl) ?hyqc5 sr ?restqc5
          case hyqc5 => (intro o ho W hW; simp only [List.getElem?_toArray, List.getElem?_cons_succ, List.getElem?_cons_zero, Option.some.injEq] at ho; subst ho; (try dsimp only at hW); skip; go_simp; try rfl)
          try simp only [Act.put, List.setIfInBounds_toArray, List.set_cons_zero, List.set_cons_succ]
          refine wpAnyH_done (by kernel_rfl) ?_ _
          refine NoPanic.normal ?_
          obtain ⟨W9, hW9⟩ : ∃ W9, ((wq.setCell ⟨w.heap.size + 1, 0, none⟩ (.string ⟨#[]⟩)).setCell ⟨w.heap.size + 1, 1, none⟩ (.string ⟨#[]⟩)).setCell ⟨w.heap.size + 1, 2, none⟩ (.string ⟨#[]⟩) = W9 := ⟨_, rfl⟩
          rw [hW9] at sr
          rw [hW9]
          clear hW9 sq c0 c1 c2 f0 f1 f2
          obtain ⟨⟨c0, c1, c2⟩, -⟩ := blk3 sr.2.1
          go_wp2
          exact bodyPost_ret (v := .tuple #[.agg #[.string ⟨#[]⟩, .string ⟨#[]⟩, .string ⟨#[]⟩], .bool (s3 a b c ⟨#[]⟩ ⟨#[]⟩ ⟨#[]⟩)]) (by simp [results, Try.results46, go_sem, *]) rfl ⟨by rw [HR.out]; cases s3 a b c ⟨#[]⟩ ⟨#[]⟩ ⟨#[]⟩ <;> rfl, sr.2.2⟩
        | false =>
          have HR := Lib.hid (HS.out hae)
          cases op with
          | none =>
            have CQ := Lib.hid (fun W => (show Calls Try.prog 59 #[.string u] W fun e w' => e = .returned (.tuple #[.agg #[.string ⟨#[]⟩, .string ⟨#[]⟩, .string ⟨#[]⟩], .bool false]) ∧ Below W.heap.size W w' from CP.out W))
            go_wp2_with (first
              | (go_at_call 60; (with_reducible refine (CT.out _).mono ?_); rintro e w6 ⟨rfl, b6⟩; have B6 := B5.on b6; have R6 := r1.on b6; have z6 := below_on r2 r2.size b6)
              | (go_at_call 59; (with_reducible refine (CQ.out _).mono ?_); rintro e w7 ⟨rfl, b7⟩; have B8 := (B6.on b7).alloc (.cells #[.string ⟨#[]⟩, .string ⟨#[]⟩, .string ⟨#[]⟩] 110); have R8 := (R6.on b7).alloc (.cells #[.string ⟨#[]⟩, .string ⟨#[]⟩, .string ⟨#[]⟩] 110); have z8 := (below_on z6 z6.size b7).alloc (below_on z6 z6.size b7).size (.cells #[.string ⟨#[]⟩, .string ⟨#[]⟩, .string ⟨#[]⟩] 110); obtain ⟨⟨p0, p1, p2⟩, -⟩ := blk3 B8; obtain ⟨⟨c0, c1, c2⟩, f0, f1, f2⟩ := blk3 R8))
            have R9 := blk3_set R8 (.string ⟨#[]⟩) (.string ⟨#[]⟩) (.string ⟨#[]⟩)
            have z9 := below_sets z8 (Nat.le_succ _) (.string ⟨#[]⟩) (.string ⟨#[]⟩) (.string ⟨#[]⟩)
            clear c0 c1 c2
            obtain ⟨⟨c0, c1, c2⟩, -⟩ := blk3 R9
            exact bodyPost_ret (v := .tuple #[.agg #[.string ⟨#[]⟩, .string ⟨#[]⟩, .string ⟨#[]⟩], .bool false]) (by simp [results, Try.results46, go_sem, *]) rfl ⟨by rw [HR.out]; rfl, z9⟩
          | some q =>
            obtain ⟨a', ha'⟩ : ∃ a', D.sb q.l = a' := ⟨_, rfl⟩
            obtain ⟨b', hb'⟩ : ∃ b', D.sb q.s = b' := ⟨_, rfl⟩
            obtain ⟨c', hc'⟩ : ∃ c', D.sb q.r = c' := ⟨_, rfl⟩
            have CQ := Lib.hid (fun W => (show Calls Try.prog 59 #[.string u] W fun e w' => e = .returned (.tuple #[.agg #[.string a', .string b', .string c'], .bool true]) ∧ Below W.heap.size W w' from by rw [← ha', ← hb', ← hc']; exact CP.out W))
            have hr : D.rof x = if s3 a' b' c' a b c then some (D.frt x) else none := by rw [HR.out, ← ha', ← hb', ← hc']; rfl
            cases hz : s3 a' b' c' a b c with
            | true =>
              rw [hz] at hr
              have HQ := Lib.hid hr
              clear hr
              go_wp2_with (first
                | (go_at_call 60; (with_reducible refine (CT.out _).mono ?_); rintro e w6 ⟨rfl, b6⟩; have B6 := B5.on b6; have R6 := r1.on b6; have z6 := below_on r2 r2.size b6)
                | (go_at_call 59; (with_reducible refine (CQ.out _).mono ?_); rintro e w7 ⟨rfl, b7⟩; have B8 := (B6.on b7).alloc (.cells #[.string a', .string b', .string c'] 110); have R8 := (R6.on b7).alloc (.cells #[.string a', .string b', .string c'] 110); have z8 := (below_on z6 z6.size b7).alloc (below_on z6 z6.size b7).size (.cells #[.string a', .string b', .string c'] 110); obtain ⟨⟨p0, p1, p2⟩, -⟩ := blk3 B8; obtain ⟨⟨c0, c1, c2⟩, f0, f1, f2⟩ := blk3 R8))
              have R9 := blk3_set R8 (.string a) (.string b) (.string c)
              have z9 := below_sets z8 (Nat.le_succ _) (.string a) (.string b) (.string c)
              clear c0 c1 c2
              obtain ⟨⟨c0, c1, c2⟩, -⟩ := blk3 R9
              exact bodyPost_ret (v := .tuple #[.agg #[.string a, .string b, .string c], .bool true]) (by simp [results, Try.results46, go_sem, *]) rfl ⟨by rw [HQ.out]; show _ = Ending.returned (.tuple #[av (D.frt x), .bool true]); rw [HF.out _ rfl], z9⟩
            | false =>
              rw [hz] at hr
              have HQ := Lib.hid hr
              clear hr
              go_wp2_with (first
                | (go_at_call 60; (with_reducible refine (CT.out _).mono ?_); rintro e w6 ⟨rfl, b6⟩; have B6 := B5.on b6; have R6 := r1.on b6; have z6 := below_on r2 r2.size b6)
                | (go_at_call 59; (with_reducible refine (CQ.out _).mono ?_); rintro e w7 ⟨rfl, b7⟩; have B8 := (B6.on b7).alloc (.cells #[.string a', .string b', .string c'] 110); have R8 := (R6.on b7).alloc (.cells #[.string a', .string b', .string c'] 110); have z8 := (below_on z6 z6.size b7).alloc (below_on z6 z6.size b7).size (.cells #[.string a', .string b', .string c'] 110); obtain ⟨⟨p0, p1, p2⟩, -⟩ := blk3 B8; obtain ⟨⟨c0, c1, c2⟩, f0, f1, f2⟩ := blk3 R8))
              have R9 := blk3_set R8 (.string ⟨#[]⟩) (.string ⟨#[]⟩) (.string ⟨#[]⟩)
              have z9 := below_sets z8 (Nat.le_succ _) (.string ⟨#[]⟩) (.string ⟨#[]⟩) (.string ⟨#[]⟩)
              clear c0 c1 c2
              obtain ⟨⟨c0, c1, c2⟩, -⟩ := blk3 R9
              exact bodyPost_ret (v := .tuple #[.agg #[.string ⟨#[]⟩, .string ⟨#[]⟩, .string ⟨#[]⟩], .bool false]) (by simp [results, Try.results46, go_sem, *]) rfl ⟨by rw [HQ.out]; rfl, z9⟩
    · simp only [List.getElem?_toArray, List.getElem?_cons_succ, List.getElem?_cons_zero, Option.some.injEq] at ho; subst ho
      go_simp
      have s7 : (fun W => Blk W w.heap.size 38 (nc x) ∧ Blk W (w.heap.size + 1) 110 #[.string ⟨#[]⟩, .string ⟨#[]⟩, .string ⟨#[]⟩] ∧ Below w.heap.size w W ∧ w.heap.size + 2 ≤ W.heap.size) (wd.alloc (.cells #[.string ⟨#[]⟩, .string ⟨#[]⟩, .string ⟨#[]⟩] 110)) := ⟨s0.1.alloc _, s0.2.1.alloc _, s0.2.2.1.alloc s0.2.2.1.size _, Nat.le_trans s0.2.2.2 (below_alloc_ _ _).size⟩
      refine hK.out _ _ s7 (fun _ => ?_)
      clear hK K
      try simp only [Act.put, List.setIfInBounds_toArray, List.set_cons_zero, List.set_cons_succ]
      refine nextS 3 (by kernel_rfl) (by rfl) (fun o ho K hK => ?_)
      simp only [List.getElem?_toArray, List.getElem?_cons_succ, List.getElem?_cons_zero, Option.some.injEq] at ho; subst ho
      go_simp
      (go_at_call 58; (with_reducible refine (CB.out _ s7.1).mono ?_); rintro e w1 ⟨rfl, rfl⟩)
      refine hK.out _ _ s7 (fun _ => ?_)
      clear hK K
      try simp only [Act.put, List.setIfInBounds_toArray, List.set_cons_zero, List.set_cons_succ]
      refine nextS 5 (by kernel_rfl) (by rfl) (fun o ho K hK => ?_)
      simp only [List.getElem?_toArray, List.getElem?_cons_succ, List.getElem?_cons_zero, Option.some.injEq] at ho; subst ho
      go_simp
      (go_at_call 58; (with_reducible refine (CC.out _ s7.1).mono ?_); rintro e w1 ⟨rfl, rfl⟩)
      refine hK.out _ _ s7 (fun _ => ?_)
      clear hK K
      try simp only [Act.put, List.setIfInBounds_toArray, List.set_cons_zero, List.set_cons_succ]
      refine takeS 6 (some 13) ?vd6 (by kernel_rfl) (by kernel_rfl) (by kernel_rfl) (by kernel_rfl) (fun _ _ _ h => h) (by rfl) ?hyd6 s7 ?restd6
      case hyd6 => (intro o ho W hW; simp only [List.getElem?_toArray, List.getElem?_cons_succ, List.getElem?_cons_zero, Option.some.injEq] at ho; subst ho; (try dsimp only at hW); skip; go_simp; try rfl)
      try simp only [Act.put, List.setIfInBounds_toArray, List.set_cons_zero, List.set_cons_succ]
      refine nextS 8 (by kernel_rfl) (by rfl) (fun o ho K hK => ?_)
      simp only [List.getElem?_toArray, List.getElem?_cons_succ, List.getElem?_cons_zero, Option.some.injEq] at ho; subst ho
      go_simp
      have B7 := Blk.new wd 110 #[.string a, .string b, .string c]
      have s8 : (fun W => Blk W w.heap.size 38 (nc x) ∧ Blk W (w.heap.size + 1) 110 #[.string ⟨#[]⟩, .string ⟨#[]⟩, .string ⟨#[]⟩] ∧ Below w.heap.size w W ∧ w.heap.size + 2 ≤ W.heap.size) (wd.alloc (.cells #[.string a, .string b, .string c] 110)) := ⟨s0.1.alloc _, s0.2.1.alloc _, s0.2.2.1.alloc s0.2.2.1.size _, Nat.le_trans s0.2.2.2 (below_alloc_ _ _).size⟩
      refine hK.out _ _ s8 (fun _ => ?_)
      clear hK K
      try simp only [Act.put, List.setIfInBounds_toArray, List.set_cons_zero, List.set_cons_succ]
      refine wpAnyH_done (by kernel_rfl) ?_ _
      refine NoPanic.normal ?_
      obtain ⟨W, hW⟩ : ∃ W, wd.alloc (.cells #[.string a, .string b, .string c] 110) = W := ⟨_, rfl⟩
      have B5 : Blk W wd.heap.size 110 #[.string a, .string b, .string c] := by rw [← hW]; exact Blk.new _ _ _
      rw [hW] at s8
      rw [hW]
      clear hW s0 B7 CA CB CC
      obtain ⟨-, r1, r2, r3⟩ := s8
      have n1 : wd.heap.size ≠ w.heap.size + 1 := Nat.ne_of_gt s0z
      have k5 := blk3 B5
      have k0 := k5.1.1
      have k1 := k5.1.2.1
      have k2 := k5.1.2.2
      cases hae : a.toList.isEmpty with
      | true =>
        have HR := Lib.hid (HN.out hae)
        go_wp2_with fail
        clear k5 k0 k1 k2
        have sq : (fun W => Blk W wd.heap.size 110 #[.string a, .string b, .string c] ∧ Blk W (w.heap.size + 1) 110 #[.string ⟨#[]⟩, .string ⟨#[]⟩, .string ⟨#[]⟩] ∧ Below w.heap.size w W) W.drew := ⟨⟨B5.out⟩, ⟨r1.out⟩, r2.drew⟩
        obtain ⟨⟨c0, c1, c2⟩, f0, f1, f2⟩ := blk3 sq.2.1
        refine wp_region_noPanic ?_
        refine wp_region_held_drew (S := fun W => Blk W wd.heap.size 110 #[.string a, .string b, .string c] ∧ Blk W (w.heap.size + 1) 110 #[.string ⟨#[]⟩, .string ⟨#[]⟩, .string ⟨#[]⟩] ∧ Below w.heap.size w W) (by kernel_rfl) sq (fun _ => ?_)
        obtain ⟨wq, hwq⟩ : ∃ wq, W.drew = wq := ⟨_, rfl⟩
        rw [hwq] at sq c0 c1 c2 f0 f1 f2
        rw [hwq]
        clear hwq
        refine takeS 0 (some 17) ?vqd0 (by kernel_rfl) (by kernel_rfl) (by kernel_rfl) (by kernel_rfl) (fun _ _ _ h => h) (by rfl) ?hyqd0 sq ?restqd0
        case hyqd0 => (intro o ho W hW; simp only [List.getElem?_toArray, List.getElem?_cons_succ, List.getElem?_cons_zero, Option.some.injEq] at ho; subst ho; (try dsimp only at hW); skip; go_simp; try rfl)
        try simp only [Act.put, List.setIfInBounds_toArray, List.set_cons_zero, List.set_cons_succ]
        refine takeS 2 (some 19) ?vqd2 (by kernel_rfl) (by kernel_rfl) (by kernel_rfl) (by kernel_rfl) (fun _ _ _ h => h) (by rfl) ?hyqd2 sq ?restqd2
        case hyqd2 => (intro o ho W hW; simp only [List.getElem?_toArray, List.getElem?_cons_succ, List.getElem?_cons_zero, Option.some.injEq] at ho; subst ho; (try dsimp only at hW); skip; go_simp; try rfl)
        try simp only [Act.put, List.setIfInBounds_toArray, List.set_cons_zero, List.set_cons_succ]
        refine takeS 1 (some 18) ?vqd1 (by kernel_rfl) (by kernel_rfl) (by kernel_rfl) (by kernel_rfl) (fun _ _ _ h => h) (by rfl) ?hyqd1 sq ?restqd1
        case hyqd1 => (intro o ho W hW; simp only [List.getElem?_toArray, List.getElem?_cons_succ, List.getElem?_cons_zero, Option.some.injEq] at ho; subst ho; (try dsimp only at hW); obtain ⟨⟨g0, g1, g2⟩, -⟩ := blk3 hW.1; go_simp; try rfl)
        try simp only [Act.put, List.setIfInBounds_toArray, List.set_cons_zero, List.set_cons_succ]
        refine takeS 3 (some 20) ?vqd3 (by kernel_rfl) (by kernel_rfl) (by kernel_rfl) (by kernel_rfl) (fun _ _ _ h => h) (by rfl) ?hyqd3 sq ?restqd3
        case hyqd3 => (intro o ho W hW; simp only [List.getElem?_toArray, List.getElem?_cons_succ, List.getElem?_cons_zero, Option.some.injEq] at ho; subst ho; (try dsimp only at hW); skip; go_simp; try rfl)
        try simp only [Act.put, List.setIfInBounds_toArray, List.set_cons_zero, List.set_cons_succ]
        refine nextS 4 (by kernel_rfl) (by rfl) (fun o ho K hK => ?_)
        simp only [List.getElem?_toArray, List.getElem?_cons_succ, List.getElem?_cons_zero, Option.some.injEq] at ho; subst ho
        go_simp
        have sr : (fun W => Blk W wd.heap.size 110 #[.string a, .string b, .string c] ∧ Blk W (w.heap.size + 1) 110 #[.string ⟨#[]⟩, .string ⟨#[]⟩, .string ⟨#[]⟩] ∧ Below w.heap.size w W) (((wq.setCell ⟨w.heap.size + 1, 0, none⟩ (.string ⟨#[]⟩)).setCell ⟨w.heap.size + 1, 1, none⟩ (.string ⟨#[]⟩)).setCell ⟨w.heap.size + 1, 2, none⟩ (.string ⟨#[]⟩)) := ⟨blk3_far sq.1 n1 _ _ _, blk3_set sq.2.1 _ _ _, below_sets sq.2.2 (Nat.le_succ _) _ _ _⟩
        refine hK.out _ _ sr (fun _ => ?_)
        clear hK K
        try simp only [Act.put, List.setIfInBounds_toArray, List.set_cons_zero, List.set_cons_succ]
        refine takeS 5 (some 3) ?vqd5 (by kernel_rfl) (by kernel_rfl) (by kernel_rfl) (by kernel_rfl) (fun _ _ _ h => h) (by rfl) ?hyqd5 sr ?restqd5
        case hyqd5 => (intro o ho W hW; simp only [List.getElem?_toArray, List.getElem?_cons_succ, List.getElem?_cons_zero, Option.some.injEq] at ho; subst ho; (try dsimp only at hW); skip; go_simp; try rfl)
        try simp only [Act.put, List.setIfInBounds_toArray, List.set_cons_zero, List.set_cons_succ]
        refine wpAnyH_done (by kernel_rfl) ?_ _
        refine NoPanic.normal ?_
        obtain ⟨W9, hW9⟩ : ∃ W9, ((wq.setCell ⟨w.heap.size + 1, 0, none⟩ (.string ⟨#[]⟩)).setCell ⟨w.heap.size + 1, 1, none⟩ (.string ⟨#[]⟩)).setCell ⟨w.heap.size + 1, 2, none⟩ (.string ⟨#[]⟩) = W9 := ⟨_, rfl⟩
        rw [hW9] at sr
        rw [hW9]
        clear hW9 sq c0 c1 c2 f0 f1 f2
        obtain ⟨⟨c0, c1, c2⟩, -⟩ := blk3 sr.2.1
        go_wp2
        exact bodyPost_ret (v := .tuple #[.agg #[.string ⟨#[]⟩, .string ⟨#[]⟩, .string ⟨#[]⟩], .bool (s3 a b c ⟨#[]⟩ ⟨#[]⟩ ⟨#[]⟩)]) (by simp [results, Try.results46, go_sem, *]) rfl ⟨by rw [HR.out]; cases s3 a b c ⟨#[]⟩ ⟨#[]⟩ ⟨#[]⟩ <;> rfl, sr.2.2⟩
      | false =>
        have HR := Lib.hid (HS.out hae)
        cases op with
        | none =>
          have CQ := Lib.hid (fun W => (show Calls Try.prog 59 #[.string u] W fun e w' => e = .returned (.tuple #[.agg #[.string ⟨#[]⟩, .string ⟨#[]⟩, .string ⟨#[]⟩], .bool false]) ∧ Below W.heap.size W w' from CP.out W))
          go_wp2_with (first
            | (go_at_call 60; (with_reducible refine (CT.out _).mono ?_); rintro e w6 ⟨rfl, b6⟩; have B6 := B5.on b6; have R6 := r1.on b6; have z6 := below_on r2 r2.size b6)
            | (go_at_call 59; (with_reducible refine (CQ.out _).mono ?_); rintro e w7 ⟨rfl, b7⟩; have B8 := (B6.on b7).alloc (.cells #[.string ⟨#[]⟩, .string ⟨#[]⟩, .string ⟨#[]⟩] 110); have R8 := (R6.on b7).alloc (.cells #[.string ⟨#[]⟩, .string ⟨#[]⟩, .string ⟨#[]⟩] 110); have z8 := (below_on z6 z6.size b7).alloc (below_on z6 z6.size b7).size (.cells #[.string ⟨#[]⟩, .string ⟨#[]⟩, .string ⟨#[]⟩] 110); obtain ⟨⟨p0, p1, p2⟩, -⟩ := blk3 B8; obtain ⟨⟨c0, c1, c2⟩, f0, f1, f2⟩ := blk3 R8))
          have R9 := blk3_set R8 (.string ⟨#[]⟩) (.string ⟨#[]⟩) (.string ⟨#[]⟩)
          have z9 := below_sets z8 (Nat.le_succ _) (.string ⟨#[]⟩) (.string ⟨#[]⟩) (.string ⟨#[]⟩)
          clear c0 c1 c2
          obtain ⟨⟨c0, c1, c2⟩, -⟩ := blk3 R9
          exact bodyPost_ret (v := .tuple #[.agg #[.string ⟨#[]⟩, .string ⟨#[]⟩, .string ⟨#[]⟩], .bool false]) (by simp [results, Try.results46, go_sem, *]) rfl ⟨by rw [HR.out]; rfl, z9⟩
        | some q =>
          obtain ⟨a', ha'⟩ : ∃ a', D.sb q.l = a' := ⟨_, rfl⟩
          obtain ⟨b', hb'⟩ : ∃ b', D.sb q.s = b' := ⟨_, rfl⟩
          obtain ⟨c', hc'⟩ : ∃ c', D.sb q.r = c' := ⟨_, rfl⟩
          have CQ := Lib.hid (fun W => (show Calls Try.prog 59 #[.string u] W fun e w' => e = .returned (.tuple #[.agg #[.string a', .string b', .string c'], .bool true]) ∧ Below W.heap.size W w' from by rw [← ha', ← hb', ← hc']; exact CP.out W))
          have hr : D.rof x = if s3 a' b' c' a b c then some (D.frt x) else none := by rw [HR.out, ← ha', ← hb', ← hc']; rfl
          cases hz : s3 a' b' c' a b c with
          | true =>
            rw [hz] at hr
            have HQ := Lib.hid hr
            clear hr
            go_wp2_with (first
              | (go_at_call 60; (with_reducible refine (CT.out _).mono ?_); rintro e w6 ⟨rfl, b6⟩; have B6 := B5.on b6; have R6 := r1.on b6; have z6 := below_on r2 r2.size b6)
              | (go_at_call 59; (with_reducible refine (CQ.out _).mono ?_); rintro e w7 ⟨rfl, b7⟩; have B8 := (B6.on b7).alloc (.cells #[.string a', .string b', .string c'] 110); have R8 := (R6.on b7).alloc (.cells #[.string a', .string b', .string c'] 110); have z8 := (below_on z6 z6.size b7).alloc (below_on z6 z6.size b7).size (.cells #[.string a', .string b', .string c'] 110); obtain ⟨⟨p0, p1, p2⟩, -⟩ := blk3 B8; obtain ⟨⟨c0, c1, c2⟩, f0, f1, f2⟩ := blk3 R8))
            have R9 := blk3_set R8 (.string a) (.string b) (.string c)
            have z9 := below_sets z8 (Nat.le_succ _) (.string a) (.string b) (.string c)
            clear c0 c1 c2
            obtain ⟨⟨c0, c1, c2⟩, -⟩ := blk3 R9
            exact bodyPost_ret (v := .tuple #[.agg #[.string a, .string b, .string c], .bool true]) (by simp [results, Try.results46, go_sem, *]) rfl ⟨by rw [HQ.out]; show _ = Ending.returned (.tuple #[av (D.frt x), .bool true]); rw [HF.out _ rfl], z9⟩
          | false =>
            rw [hz] at hr
            have HQ := Lib.hid hr
            clear hr
            go_wp2_with (first
              | (go_at_call 60; (with_reducible refine (CT.out _).mono ?_); rintro e w6 ⟨rfl, b6⟩; have B6 := B5.on b6; have R6 := r1.on b6; have z6 := below_on r2 r2.size b6)
              | (go_at_call 59; (with_reducible refine (CQ.out _).mono ?_); rintro e w7 ⟨rfl, b7⟩; have B8 := (B6.on b7).alloc (.cells #[.string a', .string b', .string c'] 110); have R8 := (R6.on b7).alloc (.cells #[.string a', .string b', .string c'] 110); have z8 := (below_on z6 z6.size b7).alloc (below_on z6 z6.size b7).size (.cells #[.string a', .string b', .string c'] 110); obtain ⟨⟨p0, p1, p2⟩, -⟩ := blk3 B8; obtain ⟨⟨c0, c1, c2⟩, f0, f1, f2⟩ := blk3 R8))
            have R9 := blk3_set R8 (.string ⟨#[]⟩) (.string ⟨#[]⟩) (.string ⟨#[]⟩)
            have z9 := below_sets z8 (Nat.le_succ _) (.string ⟨#[]⟩) (.string ⟨#[]⟩) (.string ⟨#[]⟩)
            clear c0 c1 c2
            obtain ⟨⟨c0, c1, c2⟩, -⟩ := blk3 R9
            exact bodyPost_ret (v := .tuple #[.agg #[.string ⟨#[]⟩, .string ⟨#[]⟩, .string ⟨#[]⟩], .bool false]) (by simp [results, Try.results46, go_sem, *]) rfl ⟨by rw [HQ.out]; rfl, z9⟩
  · simp only [List.getElem?_toArray, List.getElem?_cons_succ, List.getElem?_cons_zero, Option.some.injEq] at ho; subst ho
    go_simp
    have s7 : (fun W => Blk W w.heap.size 38 (nc x) ∧ Blk W (w.heap.size + 1) 110 #[.string ⟨#[]⟩, .string ⟨#[]⟩, .string ⟨#[]⟩] ∧ Below w.heap.size w W ∧ w.heap.size + 2 ≤ W.heap.size) (wd.alloc (.cells #[.string ⟨#[]⟩, .string ⟨#[]⟩, .string ⟨#[]⟩] 110)) := ⟨s0.1.alloc _, s0.2.1.alloc _, s0.2.2.1.alloc s0.2.2.1.size _, Nat.le_trans s0.2.2.2 (below_alloc_ _ _).size⟩
    refine hK.out _ _ s7 (fun _ => ?_)
    clear hK K
    try simp only [Act.put, List.setIfInBounds_toArray, List.set_cons_zero, List.set_cons_succ]
    refine nextS 1 (by kernel_rfl) (by rfl) (fun o ho K hK => ?_)
    simp only [List.getElem?_toArray, List.getElem?_cons_succ, List.getElem?_cons_zero, Option.some.injEq] at ho; subst ho
    go_simp
    (go_at_call 58; (with_reducible refine (CA.out _ s7.1).mono ?_); rintro e w1 ⟨rfl, rfl⟩)
    refine hK.out _ _ s7 (fun _ => ?_)
    clear hK K
    try simp only [Act.put, List.setIfInBounds_toArray, List.set_cons_zero, List.set_cons_succ]
    refine nextS 3 (by kernel_rfl) (by rfl) (fun o ho K hK => ?_)
    simp only [List.getElem?_toArray, List.getElem?_cons_succ, List.getElem?_cons_zero, Option.some.injEq] at ho; subst ho
    go_simp
    (go_at_call 58; (with_reducible refine (CB.out _ s7.1).mono ?_); rintro e w1 ⟨rfl, rfl⟩)
    refine hK.out _ _ s7 (fun _ => ?_)
    clear hK K
    try simp only [Act.put, List.setIfInBounds_toArray, List.set_cons_zero, List.set_cons_succ]
    refine nextS 5 (by kernel_rfl) (by rfl) (fun o ho K hK => ?_)
    simp only [List.getElem?_toArray, List.getElem?_cons_succ, List.getElem?_cons_zero, Option.some.injEq] at ho; subst ho
    go_simp
    (go_at_call 58; (with_reducible refine (CC.out _ s7.1).mono ?_); rintro e w1 ⟨rfl, rfl⟩)
    refine hK.out _ _ s7 (fun _ => ?_)
    clear hK K
    try simp only [Act.put, List.setIfInBounds_toArray, List.set_cons_zero, List.set_cons_succ]
    refine takeS 6 (some 13) ?ve6 (by kernel_rfl) (by kernel_rfl) (by kernel_rfl) (by kernel_rfl) (fun _ _ _ h => h) (by rfl) ?hye6 s7 ?reste6
    case hye6 => (intro o ho W hW; simp only [List.getElem?_toArray, List.getElem?_cons_succ, List.getElem?_cons_zero, Option.some.injEq] at ho; subst ho; (try dsimp only at hW); skip; go_simp; try rfl)
    try simp only [Act.put, List.setIfInBounds_toArray, List.set_cons_zero, List.set_cons_succ]
    refine nextS 8 (by kernel_rfl) (by rfl) (fun o ho K hK => ?_)
    simp only [List.getElem?_toArray, List.getElem?_cons_succ, List.getElem?_cons_zero, Option.some.injEq] at ho; subst ho
    go_simp
    have B7 := Blk.new wd 110 #[.string a, .string b, .string c]
    have s8 : (fun W => Blk W w.heap.size 38 (nc x) ∧ Blk W (w.heap.size + 1) 110 #[.string ⟨#[]⟩, .string ⟨#[]⟩, .string ⟨#[]⟩] ∧ Below w.heap.size w W ∧ w.heap.size + 2 ≤ W.heap.size) (wd.alloc (.cells #[.string a, .string b, .string c] 110)) := ⟨s0.1.alloc _, s0.2.1.alloc _, s0.2.2.1.alloc s0.2.2.1.size _, Nat.le_trans s0.2.2.2 (below_alloc_ _ _).size⟩
    refine hK.out _ _ s8 (fun _ => ?_)
    clear hK K
    try simp only [Act.put, List.setIfInBounds_toArray, List.set_cons_zero, List.set_cons_succ]
    refine wpAnyH_done (by kernel_rfl) ?_ _
    refine NoPanic.normal ?_
    obtain ⟨W, hW⟩ : ∃ W, wd.alloc (.cells #[.string a, .string b, .string c] 110) = W := ⟨_, rfl⟩
    have B5 : Blk W wd.heap.size 110 #[.string a, .string b, .string c] := by rw [← hW]; exact Blk.new _ _ _
    rw [hW] at s8
    rw [hW]
    clear hW s0 B7 CA CB CC
    obtain ⟨-, r1, r2, r3⟩ := s8
    have n1 : wd.heap.size ≠ w.heap.size + 1 := Nat.ne_of_gt s0z
    have k5 := blk3 B5
    have k0 := k5.1.1
    have k1 := k5.1.2.1
    have k2 := k5.1.2.2
    cases hae : a.toList.isEmpty with
    | true =>
      have HR := Lib.hid (HN.out hae)
      go_wp2_with fail
      clear k5 k0 k1 k2
      have sq : (fun W => Blk W wd.heap.size 110 #[.string a, .string b, .string c] ∧ Blk W (w.heap.size + 1) 110 #[.string ⟨#[]⟩, .string ⟨#[]⟩, .string ⟨#[]⟩] ∧ Below w.heap.size w W) W.drew := ⟨⟨B5.out⟩, ⟨r1.out⟩, r2.drew⟩
      obtain ⟨⟨c0, c1, c2⟩, f0, f1, f2⟩ := blk3 sq.2.1
      refine wp_region_noPanic ?_
      refine wp_region_held_drew (S := fun W => Blk W wd.heap.size 110 #[.string a, .string b, .string c] ∧ Blk W (w.heap.size + 1) 110 #[.string ⟨#[]⟩, .string ⟨#[]⟩, .string ⟨#[]⟩] ∧ Below w.heap.size w W) (by kernel_rfl) sq (fun _ => ?_)
      obtain ⟨wq, hwq⟩ : ∃ wq, W.drew = wq := ⟨_, rfl⟩
      rw [hwq] at sq c0 c1 c2 f0 f1 f2
      rw [hwq]
      clear hwq
      refine takeS 0 (some 17) ?vqe0 (by kernel_rfl) (by kernel_rfl) (by kernel_rfl) (by kernel_rfl) (fun _ _ _ h => h) (by rfl) ?hyqe0 sq ?restqe0
      case hyqe0 => (intro o ho W hW; simp only [List.getElem?_toArray, List.getElem?_cons_succ, List.getElem?_cons_zero, Option.some.injEq] at ho; subst ho; (try dsimp only at hW); skip; go_simp; try rfl)
      try simp only [Act.put, List.setIfInBounds_toArray, List.set_cons_zero, List.set_cons_succ]
      refine takeS 2 (some 19) ?vqe2 (by kernel_rfl) (by kernel_rfl) (by kernel_rfl) (by kernel_rfl) (fun _ _ _ h => h) (by rfl) ?hyqe2 sq ?restqe2
      case hyqe2 => (intro o ho W hW; simp only [List.getElem?_toArray, List.getElem?_cons_succ, List.getElem?_cons_zero, Option.some.injEq] at ho; subst ho; (try dsimp only at hW); skip; go_simp; try rfl)
      try simp only [Act.put, List.setIfInBounds_toArray, List.set_cons_zero, List.set_cons_succ]
      refine takeS 1 (some 18) ?vqe1 (by kernel_rfl) (by kernel_rfl) (by kernel_rfl) (by kernel_rfl) (fun _ _ _ h => h) (by rfl) ?hyqe1 sq ?restqe1
      case hyqe1 => (intro o ho W hW; simp only [List.getElem?_toArray, List.getElem?_cons_succ, List.getElem?_cons_zero, Option.some.injEq] at ho; subst ho; (try dsimp only at hW); obtain ⟨⟨g0, g1, g2⟩, -⟩ := blk3 hW.1; go_simp; try rfl)
      try simp only [Act.put, List.setIfInBounds_toArray, List.set_cons_zero, List.set_cons_succ]
      refine takeS 3 (some 20) ?vqe3 (by kernel_rfl) (by kernel_rfl) (by kernel_rfl) (by kernel_rfl) (fun _ _ _ h => h) (by rfl) ?hyqe3 sq ?restqe3
      case hyqe3 => (intro o ho W hW; simp only [List.getElem?_toArray, List.getElem?_cons_succ, List.getElem?_cons_zero, Option.some.injEq] at ho; subst ho; (try dsimp only at hW); skip; go_simp; try rfl)
      try simp only [Act.put, List.setIfInBounds_toArray, List.set_cons_zero, List.set_cons_succ]
      refine nextS 4 (by kernel_rfl) (by rfl) (fun o ho K hK => ?_)
      simp only [List.getElem?_toArray, List.getElem?_cons_succ, List.getElem?_cons_zero, Option.some.injEq] at ho; subst ho
      go_simp
      have sr : (fun W => Blk W wd.heap.size 110 #[.string a, .string b, .string c] ∧ Blk W (w.heap.size + 1) 110 #[.string ⟨#[]⟩, .string ⟨#[]⟩, .string ⟨#[]⟩] ∧ Below w.heap.size w W) (((wq.setCell ⟨w.heap.size + 1, 0, none⟩ (.string ⟨#[]⟩)).setCell ⟨w.heap.size + 1, 1, none⟩ (.string ⟨#[]⟩)).setCell ⟨w.heap.size + 1, 2, none⟩ (.string ⟨#[]⟩)) := ⟨blk3_far sq.1 n1 _ _ _, blk3_set sq.2.1 _ _ _, below_sets sq.2.2 (Nat.le_succ _) _ _ _⟩
      refine hK.out _ _ sr (fun _ => ?_)
      clear hK K
      try simp only [Act.put, List.setIfInBounds_toArray, List.set_cons_zero, List.set_cons_succ]
      refine takeS 5 (some 3) ?vqe5 (by kernel_rfl) (by kernel_rfl) (by kernel_rfl) (by kernel_rfl) (fun _ _ _ h => h) (by rfl) ?hyqe5 sr ?restqe5
      case hyqe5 => (intro o ho W hW; simp only [List.getElem?_toArray, List.getElem?_cons_succ, List.getElem?_cons_zero, Option.some.injEq] at ho; subst ho; (try dsimp only at hW); skip; go_simp; try rfl)
      try simp only [Act.put, List.setIfInBounds_toArray, List.set_cons_zero, List.set_cons_succ]
      refine wpAnyH_done (by kernel_rfl) ?_ _
      refine NoPanic.normal ?_
      obtain ⟨W9, hW9⟩ : ∃ W9, ((wq.setCell ⟨w.heap.size + 1, 0, none⟩ (.string ⟨#[]⟩)).setCell ⟨w.heap.size + 1, 1, none⟩ (.string ⟨#[]⟩)).setCell ⟨w.heap.size + 1, 2, none⟩ (.string ⟨#[]⟩) = W9 := ⟨_, rfl⟩
      rw [hW9] at sr
      rw [hW9]
      clear hW9 sq c0 c1 c2 f0 f1 f2
      obtain ⟨⟨c0, c1, c2⟩, -⟩ := blk3 sr.2.1
      go_wp2
      exact bodyPost_ret (v := .tuple #[.agg #[.string ⟨#[]⟩, .string ⟨#[]⟩, .string ⟨#[]⟩], .bool (s3 a b c ⟨#[]⟩ ⟨#[]⟩ ⟨#[]⟩)]) (by simp [results, Try.results46, go_sem, *]) rfl ⟨by rw [HR.out]; cases s3 a b c ⟨#[]⟩ ⟨#[]⟩ ⟨#[]⟩ <;> rfl, sr.2.2⟩
    | false =>
      have HR := Lib.hid (HS.out hae)
      cases op with
      | none =>
        have CQ := Lib.hid (fun W => (show Calls Try.prog 59 #[.string u] W fun e w' => e = .returned (.tuple #[.agg #[.string ⟨#[]⟩, .string ⟨#[]⟩, .string ⟨#[]⟩], .bool false]) ∧ Below W.heap.size W w' from CP.out W))
        go_wp2_with (first
          | (go_at_call 60; (with_reducible refine (CT.out _).mono ?_); rintro e w6 ⟨rfl, b6⟩; have B6 := B5.on b6; have R6 := r1.on b6; have z6 := below_on r2 r2.size b6)
          | (go_at_call 59; (with_reducible refine (CQ.out _).mono ?_); rintro e w7 ⟨rfl, b7⟩; have B8 := (B6.on b7).alloc (.cells #[.string ⟨#[]⟩, .string ⟨#[]⟩, .string ⟨#[]⟩] 110); have R8 := (R6.on b7).alloc (.cells #[.string ⟨#[]⟩, .string ⟨#[]⟩, .string ⟨#[]⟩] 110); have z8 := (below_on z6 z6.size b7).alloc (below_on z6 z6.size b7).size (.cells #[.string ⟨#[]⟩, .string ⟨#[]⟩, .string ⟨#[]⟩] 110); obtain ⟨⟨p0, p1, p2⟩, -⟩ := blk3 B8; obtain ⟨⟨c0, c1, c2⟩, f0, f1, f2⟩ := blk3 R8))
        have R9 := blk3_set R8 (.string ⟨#[]⟩) (.string ⟨#[]⟩) (.string ⟨#[]⟩)
        have z9 := below_sets z8 (Nat.le_succ _) (.string ⟨#[]⟩) (.string ⟨#[]⟩) (.string ⟨#[]⟩)
        clear c0 c1 c2
        obtain ⟨⟨c0, c1, c2⟩, -⟩ := blk3 R9
        exact bodyPost_ret (v := .tuple #[.agg #[.string ⟨#[]⟩, .string ⟨#[]⟩, .string ⟨#[]⟩], .bool false]) (by simp [results, Try.results46, go_sem, *]) rfl ⟨by rw [HR.out]; rfl, z9⟩
      | some q =>
        obtain ⟨a', ha'⟩ : ∃ a', D.sb q.l = a' := ⟨_, rfl⟩
        obtain ⟨b', hb'⟩ : ∃ b', D.sb q.s = b' := ⟨_, rfl⟩
        obtain ⟨c', hc'⟩ : ∃ c', D.sb q.r = c' := ⟨_, rfl⟩
        have CQ := Lib.hid (fun W => (show Calls Try.prog 59 #[.string u] W fun e w' => e = .returned (.tuple #[.agg #[.string a', .string b', .string c'], .bool true]) ∧ Below W.heap.size W w' from by rw [← ha', ← hb', ← hc']; exact CP.out W))
        have hr : D.rof x = if s3 a' b' c' a b c then some (D.frt x) else none := by rw [HR.out, ← ha', ← hb', ← hc']; rfl
        cases hz : s3 a' b' c' a b c with
        | true =>
          rw [hz] at hr
          have HQ := Lib.hid hr
          clear hr
          go_wp2_with (first
            | (go_at_call 60; (with_reducible refine (CT.out _).mono ?_); rintro e w6 ⟨rfl, b6⟩; have B6 := B5.on b6; have R6 := r1.on b6; have z6 := below_on r2 r2.size b6)
            | (go_at_call 59; (with_reducible refine (CQ.out _).mono ?_); rintro e w7 ⟨rfl, b7⟩; have B8 := (B6.on b7).alloc (.cells #[.string a', .string b', .string c'] 110); have R8 := (R6.on b7).alloc (.cells #[.string a', .string b', .string c'] 110); have z8 := (below_on z6 z6.size b7).alloc (below_on z6 z6.size b7).size (.cells #[.string a', .string b', .string c'] 110); obtain ⟨⟨p0, p1, p2⟩, -⟩ := blk3 B8; obtain ⟨⟨c0, c1, c2⟩, f0, f1, f2⟩ := blk3 R8))
          have R9 := blk3_set R8 (.string a) (.string b) (.string c)
          have z9 := below_sets z8 (Nat.le_succ _) (.string a) (.string b) (.string c)
          clear c0 c1 c2
          obtain ⟨⟨c0, c1, c2⟩, -⟩ := blk3 R9
          exact bodyPost_ret (v := .tuple #[.agg #[.string a, .string b, .string c], .bool true]) (by simp [results, Try.results46, go_sem, *]) rfl ⟨by rw [HQ.out]; show _ = Ending.returned (.tuple #[av (D.frt x), .bool true]); rw [HF.out _ rfl], z9⟩
        | false =>
          rw [hz] at hr
          have HQ := Lib.hid hr
          clear hr
          go_wp2_with (first
            | (go_at_call 60; (with_reducible refine (CT.out _).mono ?_); rintro e w6 ⟨rfl, b6⟩; have B6 := B5.on b6; have R6 := r1.on b6; have z6 := below_on r2 r2.size b6)
            | (go_at_call 59; (with_reducible refine (CQ.out _).mono ?_); rintro e w7 ⟨rfl, b7⟩; have B8 := (B6.on b7).alloc (.cells #[.string a', .string b', .string c'] 110); have R8 := (R6.on b7).alloc (.cells #[.string a', .string b', .string c'] 110); have z8 := (below_on z6 z6.size b7).alloc (below_on z6 z6.size b7).size (.cells #[.string a', .string b', .string c'] 110); obtain ⟨⟨p0, p1, p2⟩, -⟩ := blk3 B8; obtain ⟨⟨c0, c1, c2⟩, f0, f1, f2⟩ := blk3 R8))
          have R9 := blk3_set R8 (.string ⟨#[]⟩) (.string ⟨#[]⟩) (.string ⟨#[]⟩)
          have z9 := below_sets z8 (Nat.le_succ _) (.string ⟨#[]⟩) (.string ⟨#[]⟩) (.string ⟨#[]⟩)
          clear c0 c1 c2
          obtain ⟨⟨c0, c1, c2⟩, -⟩ := blk3 R9
          exact bodyPost_ret (v := .tuple #[.agg #[.string ⟨#[]⟩, .string ⟨#[]⟩, .string ⟨#[]⟩], .bool false]) (by simp [results, Try.results46, go_sem, *]) rfl ⟨by rw [HQ.out]; rfl, z9⟩
end Go.Proofs.Ytkhjnfplcaffnaa
