/-
  The document's Of.
-/
import Derived.Test.YtpiajeonnhfanaaDoorTpw
import Derived.Test.YtpiajeonnhfanaaDoorGl
import Derived.Test.YtpiajeonnhfanaaDoorRpb
import Derived.Test.YtpiajeonnhfanaaDoorGm
set_option linter.unusedVariables false
set_option linter.unusedSimpArgs false
namespace Go.Proofs.YtpiajeonnhfanaaDoor
open Go.RowKit
noncomputable def eqr (u v : Value) : Sem Value := binOp .eql 46 u v
noncomputable def ner (u v : Value) : Sem Value := binOp .neq 46 u v
theorem eq_r (u v : Value) : binOp .eql 46 u v = eqr u v := rfl
theorem ne_r (u v : Value) : binOp .neq 46 u v = ner u v := rfl
def s3 (a b c a' b' c' : ByteArray) : Bool := decide (a = a' ∧ b = b' ∧ c = c')
theorem toList_inj {a b : ByteArray} : a.toList = b.toList ↔ a = b := by
  constructor
  · intro h
    rw [ByteArray.toList_eq, ByteArray.toList_eq] at h
    obtain ⟨⟨x⟩⟩ := a
    obtain ⟨⟨y⟩⟩ := b
    simp at h
    rw [h]
  · intro h; rw [h]
theorem run_eqr (a b c a' b' c' : ByteArray) (w : World) : (eqr (.agg #[.string a, .string b, .string c]) (.agg #[.string a', .string b', .string c'])).run Tryd.prog w = .ok (.bool (s3 a b c a' b' c')) w := by
  unfold eqr s3
  simp [go_sem, toList_inj]
  by_cases h1 : a = a' <;> by_cases h2 : b = b' <;> by_cases h3 : c = c' <;> simp [h1, h2, h3]
theorem run_ner (a b c a' b' c' : ByteArray) (w : World) : (ner (.agg #[.string a, .string b, .string c]) (.agg #[.string a', .string b', .string c'])).run Tryd.prog w = .ok (.bool (!s3 a b c a' b' c')) w := by
  have h := run_eqr a b c a' b' c' w
  unfold eqr at h
  unfold ner
  simp only [binOp] at h ⊢
  rw [Sem.run_bind] at h ⊢
  cases hq : (Op.equal 46 (.agg #[.string a, .string b, .string c]) (.agg #[.string a', .string b', .string c'])).run Tryd.prog w with
  | ok b w' =>
    rw [hq] at h
    simp [Result.andThen, Sem.run_pure] at h ⊢
    obtain ⟨rfl, rfl⟩ := h
    simp
  | _ => rw [hq] at h; simp [Result.andThen] at h
attribute [local go_sem ↓] Go.wp_at_zero Go.wp_at_succ eq_r ne_r
attribute [local go_sem] run_eqr run_ner

theorem pl_len (x : D.Tg) : (D.pl x).length = 3 := by have := x.len; simp [D.pl]; omega
theorem ps_len (x : D.Tg) : (D.ps x).length = 4 := by have := x.len; simp [D.ps]; omega
theorem pr_len (x : D.Tg) : (D.pr x).length = 3 := by have := x.len; simp [D.pr]; omega
theorem blk3_set {w : World} {g : Nat} {t : TypeId} {a b c : Value} (h : Blk w g t #[a, b, c]) (u v z : Value) : Blk (((w.setCell ⟨g, 0, none⟩ u).setCell ⟨g, 1, none⟩ v).setCell ⟨g, 2, none⟩ z) g t #[u, v, z] :=
  ((h.put 0 u).put 1 v).put 2 z
theorem blk3_far {w : World} {g g' : Nat} {t : TypeId} {cs : Array Value} (h : Blk w g t cs) (hg : g ≠ g') (u v z : Value) : Blk (((w.setCell ⟨g', 0, none⟩ u).setCell ⟨g', 1, none⟩ v).setCell ⟨g', 2, none⟩ z) g t cs :=
  ((h.far (p := ⟨g', 0, none⟩) hg u).far (p := ⟨g', 1, none⟩) hg v).far (p := ⟨g', 2, none⟩) hg z
theorem front_le (l : List Nat) : (D.front l).length ≤ l.length := by
  unfold D.front
  rw [List.length_reverse]
  exact Nat.le_trans (List.dropWhile_suffix _).length_le (by simp)
theorem txt_lt' {p : D.Pt} (h1 : ∀ b ∈ p.l, b < 256) (h2 : ∀ b ∈ p.s, b < 256) (h3 : ∀ b ∈ p.r, b < 256) : ∀ b ∈ D.txt p, b < 256 := by
  intro b hb
  unfold D.txt at hb
  split at hb
  · revert b; decide
  · rcases List.mem_append.1 hb with hb | hb
    · exact h1 b hb
    · rcases List.mem_append.1 hb with hb | hb
      · split at hb
        · cases hb
        · rcases List.mem_cons.1 hb with rfl | hb
          · decide
          · exact h2 b hb
      · split at hb
        · cases hb
        · rcases List.mem_cons.1 hb with rfl | hb
          · decide
          · exact h3 b hb
theorem txt_le {p : D.Pt} (h1 : p.l.length ≤ 3) (h2 : p.s.length ≤ 4) (h3 : p.r.length ≤ 3) : (D.txt p).length ≤ 100 := by
  unfold D.txt
  split
  · decide
  · simp only [List.length_append]
    split <;> split <;> simp <;> omega
theorem frt_le (x : D.Tg) : (D.frt x).l.length ≤ 3 ∧ (D.frt x).s.length ≤ 4 ∧ (D.frt x).r.length ≤ 3 :=
  ⟨by have := front_le (D.pl x); rw [pl_len] at this; exact this, by have := front_le (D.ps x); rw [ps_len] at this; exact this, by have := front_le (D.pr x); rw [pr_len] at this; exact this⟩
theorem s3_iff {p q : D.Pt} (hp : (∀ b ∈ p.l, b < 256) ∧ (∀ b ∈ p.s, b < 256) ∧ (∀ b ∈ p.r, b < 256)) (hq : (∀ b ∈ q.l, b < 256) ∧ (∀ b ∈ q.s, b < 256) ∧ (∀ b ∈ q.r, b < 256)) :
    s3 (D.sb p.l) (D.sb p.s) (D.sb p.r) (D.sb q.l) (D.sb q.s) (D.sb q.r) = decide (p = q) := by
  unfold s3
  rw [decide_eq_decide]
  constructor
  · rintro ⟨h1, h2, h3⟩
    obtain ⟨l, s, r⟩ := p
    obtain ⟨l', s', r'⟩ := q
    have e1 := D.sb_inj hp.1 hq.1 h1
    have e2 := D.sb_inj hp.2.1 hq.2.1 h2
    have e3 := D.sb_inj hp.2.2 hq.2.2 h3
    simp only at e1 e2 e3
    rw [e1, e2, e3]
  · intro h; rw [h]; exact ⟨rfl, rfl, rfl⟩
def pickr (o : Option D.Pt) (a b c : ByteArray) (y : D.Pt) : Option D.Pt := match o with
  | none => none
  | some q => if s3 (D.sb q.l) (D.sb q.s) (D.sb q.r) a b c then some y else none
/-- What the tail of Of asks. -/
structure Ofs (x : D.Tg) (a b c u : ByteArray) (o : Option D.Pt) : Prop where
  text : ∀ w, Calls Tryd.prog 29 #[.agg #[.string a, .string b, .string c]] w fun e w' => e = .returned (.string u) ∧ Below w.heap.size w w'
  parse : ∀ w, Calls Tryd.prog 28 #[.string u] w fun e w' => e = .returned (.tuple #[av (o.getD D.rt), .bool o.isSome]) ∧ Below w.heap.size w w'
  none_ : a.toList.isEmpty = true → D.rof x = if s3 a b c ⟨#[]⟩ ⟨#[]⟩ ⟨#[]⟩ then some D.rt else none
  some_ : a.toList.isEmpty = false → D.rof x = pickr o a b c (D.frt x)
theorem ofs_any (x : D.Tg) : ∃ u o, Ofs x (D.sb (D.front (D.pl x))) (D.sb (D.front (D.ps x))) (D.sb (D.front (D.pr x))) u o := by
  have hlt := D.frt_lt x
  obtain ⟨h1, h2, h3⟩ := frt_le x
  have hs1 : (D.sb (D.frt x).l).size ≤ 100 := by rw [D.sb_len]; omega
  have hs2 : (D.sb (D.frt x).s).size ≤ 100 := by rw [D.sb_len]; omega
  have hs3 : (D.sb (D.frt x).r).size ≤ 100 := by rw [D.sb_len]; omega
  have e : (⟨D.ns (D.sb (D.frt x).l), D.ns (D.sb (D.frt x).s), D.ns (D.sb (D.frt x).r)⟩ : D.Pt) = D.frt x := by
    rw [D.ns_sb hlt.1, D.ns_sb hlt.2.1, D.ns_sb hlt.2.2]
  have htx := txt_lt' hlt.1 hlt.2.1 hlt.2.2
  refine ⟨D.sb (D.txt (D.frt x)), D.parse (D.txt (D.frt x)), ⟨fun w => ?_, fun w => ?_, fun h => ?_, fun h => ?_⟩⟩
  · have := ref_text _ _ _ w hs1 hs2 hs3
    rw [e] at this
    exact this
  · have := ref_parse (D.sb (D.txt (D.frt x))) w (by rw [D.sb_len]; exact txt_le h1 h2 h3)
    rw [D.ns_sb htx] at this
    exact this
  · have hl : (D.frt x).l = [] := by
      have h' : (D.sb (D.frt x).l).toList.isEmpty = true := h
      rw [sb_empty] at h'
      simpa using h'
    have h3 := s3_iff (p := D.frt x) (q := D.rt) hlt ⟨(fun b hb => by cases hb), (fun b hb => by cases hb), (fun b hb => by cases hb)⟩
    unfold D.rof
    rw [if_pos hl]
    have h4 : s3 (D.sb (D.front (D.pl x))) (D.sb (D.front (D.ps x))) (D.sb (D.front (D.pr x))) ⟨#[]⟩ ⟨#[]⟩ ⟨#[]⟩ = decide (D.frt x = D.rt) := h3
    rw [h4]
    by_cases hz : D.frt x = D.rt <;> simp [hz]
  · have hl : (D.frt x).l ≠ [] := by
      have h' : (D.sb (D.frt x).l).toList.isEmpty = false := h
      rw [sb_empty] at h'
      simpa using h'
    unfold D.rof pickr
    rw [if_neg hl]
    cases ho : D.parse (D.txt (D.frt x)) with
    | none => rfl
    | some q =>
      simp only []
      have h3 : s3 (D.sb q.l) (D.sb q.s) (D.sb q.r) (D.sb (D.front (D.pl x))) (D.sb (D.front (D.ps x))) (D.sb (D.front (D.pr x))) = decide (q = D.frt x) := s3_iff (can_lt (D.parse_can ho)) hlt
      rw [h3]
      by_cases hz : q = D.frt x <;> simp [hz]
set_option maxRecDepth 100000 in
set_option maxHeartbeats 8000000 in
theorem rof_any (x : D.Tg) (w : World) : Calls Tryd.prog 18 #[.agg (nc x)] w fun e w' => e = .returned (.tuple #[av ((D.rof x).getD D.rt), .bool (D.rof x).isSome]) ∧ Below w.heap.size w w' := by
  go_enter Tryd.func18, Tryd.ntmps18
  obtain ⟨w0, hw0⟩ : ∃ w0, (w.alloc (.cells (nc x) 50)).alloc (.cells emp 46) = w0 := ⟨_, rfl⟩
  unfold emp at hw0
  have hb0 : Below w.heap.size w w0 := by rw [← hw0]; exact ((Below.refl _ _).alloc (Nat.le_refl _) _).alloc (by simp) _
  have B0 := (Blk.new w 50 (nc x)).alloc (.cells emp 46)
  have B1 : Blk w0 (w.heap.size + 1) 46 emp := by
    have := Blk.new (w.alloc (.cells (nc x) 50)) 46 emp
    rw [World.size_alloc] at this
    unfold emp at this ⊢
    rw [hw0] at this
    exact this
  unfold emp at B0
  rw [hw0] at B0
  go_wp2_with fail
  try rw [hw0]
  have hz0 : w.heap.size + 2 ≤ w0.heap.size := by rw [← hw0]; simp
  clear hw0
  have cA : ∀ W, Blk W w.heap.size 50 (nc x) → Calls Tryd.prog 27 #[.slice (some ⟨w.heap.size, 0, none⟩) 3 10] W fun e w' => e = .returned (.string (D.sb (D.front (D.pl x)))) ∧ W = w' := fun W hB =>
    front_any _ 3 10 (D.pl x) W (row_part hB).1 (fun b hb => x.lt b (List.mem_of_mem_take hb)) (by decide) (by decide)
  have cB : ∀ W, Blk W w.heap.size 50 (nc x) → Calls Tryd.prog 27 #[.slice (some ⟨w.heap.size, 3, none⟩) 4 7] W fun e w' => e = .returned (.string (D.sb (D.front (D.ps x)))) ∧ W = w' := fun W hB =>
    front_any _ 4 7 (D.ps x) W (row_part hB).2.1 (fun b hb => x.lt b (List.mem_of_mem_drop (List.mem_of_mem_take hb))) (by decide) (by decide)
  have cC : ∀ W, Blk W w.heap.size 50 (nc x) → Calls Tryd.prog 27 #[.slice (some ⟨w.heap.size, 7, none⟩) 3 3] W fun e w' => e = .returned (.string (D.sb (D.front (D.pr x)))) ∧ W = w' := fun W hB =>
    front_any _ 3 3 (D.pr x) W (row_part hB).2.2 (fun b hb => x.lt b (List.mem_of_mem_drop hb)) (by decide) (by decide)
  obtain ⟨u, op, hO⟩ := ofs_any x
  obtain ⟨a, ha⟩ : ∃ a, D.sb (D.front (D.pl x)) = a := ⟨_, rfl⟩
  obtain ⟨b, hb⟩ : ∃ b, D.sb (D.front (D.ps x)) = b := ⟨_, rfl⟩
  obtain ⟨c, hc⟩ : ∃ c, D.sb (D.front (D.pr x)) = c := ⟨_, rfl⟩
  rw [ha] at cA
  rw [hb] at cB
  rw [hc] at cC
  have CA := Lib.hid cA
  have CB := Lib.hid cB
  have CC := Lib.hid cC
  have HA := Lib.hid ha
  rw [ha, hb, hc] at hO
  have hfa : ∀ q, D.frt x = q → av q = .agg #[.string a, .string b, .string c] := fun q hq => by subst hq; unfold av D.frt; rw [ha, hb, hc]
  have HF := Lib.hid hfa
  have CT := Lib.hid hO.text
  have CP := Lib.hid hO.parse
  have HN := Lib.hid hO.none_
  have HS := Lib.hid hO.some_
  clear cA cB cC ha hb hc hO hfa HA
  have s0 : (fun W => Blk W w.heap.size 50 (nc x) ∧ Blk W (w.heap.size + 1) 46 #[.string ⟨#[]⟩, .string ⟨#[]⟩, .string ⟨#[]⟩] ∧ Below w.heap.size w W ∧ w.heap.size + 2 ≤ W.heap.size) w0.drew := ⟨⟨B0.out⟩, ⟨B1.out⟩, hb0.drew, hz0⟩
  refine wp_region_noPanic ?_
  refine wp_region_held_drew (S := fun W => Blk W w.heap.size 50 (nc x) ∧ Blk W (w.heap.size + 1) 46 #[.string ⟨#[]⟩, .string ⟨#[]⟩, .string ⟨#[]⟩] ∧ Below w.heap.size w W ∧ w.heap.size + 2 ≤ W.heap.size) (by kernel_rfl) s0 (fun _ => ?_)
  obtain ⟨wd, hwd⟩ : ∃ wd, w0.drew = wd := ⟨_, rfl⟩
  rw [hwd] at s0
  rw [hwd]
  clear hwd hb0 B0 B1 hz0
  have s0z : w.heap.size + 1 < wd.heap.size := s0.2.2.2
  refine takeS 0 (some 7) ?va0 (by kernel_rfl) (by kernel_rfl) (by kernel_rfl) (by kernel_rfl) (fun _ _ _ h => h) (by rfl) ?hya0 s0 ?resta0
  case hya0 => (intro o ho W hW; simp only [List.getElem?_toArray, List.getElem?_cons_succ, List.getElem?_cons_zero, Option.some.injEq] at ho; subst ho; (try dsimp only at hW); skip; go_simp; try rfl)
  try simp only [Act.put, List.setIfInBounds_toArray, List.set_cons_zero, List.set_cons_succ]
  refine takeS 2 (some 9) ?va2 (by kernel_rfl) (by kernel_rfl) (by kernel_rfl) (by kernel_rfl) (fun _ _ _ h => h) (by rfl) ?hya2 s0 ?resta2
  case hya2 => (intro o ho W hW; simp only [List.getElem?_toArray, List.getElem?_cons_succ, List.getElem?_cons_zero, Option.some.injEq] at ho; subst ho; (try dsimp only at hW); skip; go_simp; try rfl)
  try simp only [Act.put, List.setIfInBounds_toArray, List.set_cons_zero, List.set_cons_succ]
  refine takeS 4 (some 11) ?va4 (by kernel_rfl) (by kernel_rfl) (by kernel_rfl) (by kernel_rfl) (fun _ _ _ h => h) (by rfl) ?hya4 s0 ?resta4
  case hya4 => (intro o ho W hW; simp only [List.getElem?_toArray, List.getElem?_cons_succ, List.getElem?_cons_zero, Option.some.injEq] at ho; subst ho; (try dsimp only at hW); skip; go_simp; try rfl)
  try simp only [Act.put, List.setIfInBounds_toArray, List.set_cons_zero, List.set_cons_succ]
  refine forkS 1 7 (by kernel_rfl) (by rfl) (by rfl) (fun o ho K hK => ?_) (fun o ho K hK => ?_)
  · simp only [List.getElem?_toArray, List.getElem?_cons_succ, List.getElem?_cons_zero, Option.some.injEq] at ho; subst ho
    go_simp
    (go_at_call 27; (with_reducible refine (CA.out _ s0.1).mono ?_); rintro e w1 ⟨rfl, rfl⟩)
    refine hK.out _ _ s0 (fun _ => ?_)
    clear hK K
    try simp only [Act.put, List.setIfInBounds_toArray, List.set_cons_zero, List.set_cons_succ]
    refine forkS 3 7 (by kernel_rfl) (by rfl) (by rfl) (fun o ho K hK => ?_) (fun o ho K hK => ?_)
    · simp only [List.getElem?_toArray, List.getElem?_cons_succ, List.getElem?_cons_zero, Option.some.injEq] at ho; subst ho
      go_simp
      (go_at_call 27; (with_reducible refine (CB.out _ s0.1).mono ?_); rintro e w1 ⟨rfl, rfl⟩)
      refine hK.out _ _ s0 (fun _ => ?_)
      clear hK K
      try simp only [Act.put, List.setIfInBounds_toArray, List.set_cons_zero, List.set_cons_succ]
      refine forkS 5 7 (by kernel_rfl) (by rfl) (by rfl) (fun o ho K hK => ?_) (fun o ho K hK => ?_)
      · simp only [List.getElem?_toArray, List.getElem?_cons_succ, List.getElem?_cons_zero, Option.some.injEq] at ho; subst ho
        go_simp
        (go_at_call 27; (with_reducible refine (CC.out _ s0.1).mono ?_); rintro e w1 ⟨rfl, rfl⟩)
        refine hK.out _ _ s0 (fun _ => ?_)
        clear hK K
        try simp only [Act.put, List.setIfInBounds_toArray, List.set_cons_zero, List.set_cons_succ]
        refine takeS 6 (some 13) ?vb6 (by kernel_rfl) (by kernel_rfl) (by kernel_rfl) (by kernel_rfl) (fun _ _ _ h => h) (by rfl) ?hyb6 s0 ?restb6
        case hyb6 => (intro o ho W hW; simp only [List.getElem?_toArray, List.getElem?_cons_succ, List.getElem?_cons_zero, Option.some.injEq] at ho; subst ho; (try dsimp only at hW); skip; go_simp; try rfl)
        try simp only [Act.put, List.setIfInBounds_toArray, List.set_cons_zero, List.set_cons_succ]
        refine nextS 7 (by kernel_rfl) (by rfl) (fun o ho K hK => ?_)
        simp only [List.getElem?_toArray, List.getElem?_cons_succ, List.getElem?_cons_zero, Option.some.injEq] at ho; subst ho
        go_simp
        have s7 : (fun W => Blk W w.heap.size 50 (nc x) ∧ Blk W (w.heap.size + 1) 46 #[.string ⟨#[]⟩, .string ⟨#[]⟩, .string ⟨#[]⟩] ∧ Below w.heap.size w W ∧ w.heap.size + 2 ≤ W.heap.size) (wd.alloc (.cells #[.string ⟨#[]⟩, .string ⟨#[]⟩, .string ⟨#[]⟩] 46)) := ⟨s0.1.alloc _, s0.2.1.alloc _, s0.2.2.1.alloc s0.2.2.1.size _, Nat.le_trans s0.2.2.2 (below_alloc_ _ _).size⟩
        refine hK.out _ _ s7 (fun _ => ?_)
        clear hK K
        try simp only [Act.put, List.setIfInBounds_toArray, List.set_cons_zero, List.set_cons_succ]
        refine nextS 8 (by kernel_rfl) (by rfl) (fun o ho K hK => ?_)
        simp only [List.getElem?_toArray, List.getElem?_cons_succ, List.getElem?_cons_zero, Option.some.injEq] at ho; subst ho
        go_simp
        have B7 := Blk.new wd 46 #[.string a, .string b, .string c]
        have s8 : (fun W => Blk W w.heap.size 50 (nc x) ∧ Blk W (w.heap.size + 1) 46 #[.string ⟨#[]⟩, .string ⟨#[]⟩, .string ⟨#[]⟩] ∧ Below w.heap.size w W ∧ w.heap.size + 2 ≤ W.heap.size) (wd.alloc (.cells #[.string a, .string b, .string c] 46)) := ⟨s0.1.alloc _, s0.2.1.alloc _, s0.2.2.1.alloc s0.2.2.1.size _, Nat.le_trans s0.2.2.2 (below_alloc_ _ _).size⟩
        refine hK.out _ _ s8 (fun _ => ?_)
        clear hK K
        try simp only [Act.put, List.setIfInBounds_toArray, List.set_cons_zero, List.set_cons_succ]
        refine wpAnyH_done (by kernel_rfl) ?_ _
        refine NoPanic.normal ?_
        obtain ⟨W, hW⟩ : ∃ W, wd.alloc (.cells #[.string a, .string b, .string c] 46) = W := ⟨_, rfl⟩
        have B5 : Blk W wd.heap.size 46 #[.string a, .string b, .string c] := by rw [← hW]; exact Blk.new _ _ _
        rw [hW] at s8
        rw [hW]
        clear hW s0 B7 CA CB CC
        obtain ⟨-, r1, r2, r3⟩ := s8
        have n1 : wd.heap.size ≠ w.heap.size + 1 := Nat.ne_of_gt s0z
        have k5 := blk3 B5
        have k0 := k5.1.1
        have k1 := k5.1.2.1
        have k2 := k5.1.2.2
        cases hae : a.toList.isEmpty with
        | true =>
          have HR := Lib.hid (HN.out hae)
          go_wp2_with fail
          clear k5 k0 k1 k2
          have sq : (fun W => Blk W wd.heap.size 46 #[.string a, .string b, .string c] ∧ Blk W (w.heap.size + 1) 46 #[.string ⟨#[]⟩, .string ⟨#[]⟩, .string ⟨#[]⟩] ∧ Below w.heap.size w W) W.drew := ⟨⟨B5.out⟩, ⟨r1.out⟩, r2.drew⟩
          obtain ⟨⟨c0, c1, c2⟩, f0, f1, f2⟩ := blk3 sq.2.1
          refine wp_region_noPanic ?_
          refine wp_region_held_drew (S := fun W => Blk W wd.heap.size 46 #[.string a, .string b, .string c] ∧ Blk W (w.heap.size + 1) 46 #[.string ⟨#[]⟩, .string ⟨#[]⟩, .string ⟨#[]⟩] ∧ Below w.heap.size w W) (by kernel_rfl) sq (fun _ => ?_)
          obtain ⟨wq, hwq⟩ : ∃ wq, W.drew = wq := ⟨_, rfl⟩
          rw [hwq] at sq c0 c1 c2 f0 f1 f2
          rw [hwq]
          clear hwq
          refine takeS 0 (some 17) ?vqb0 (by kernel_rfl) (by kernel_rfl) (by kernel_rfl) (by kernel_rfl) (fun _ _ _ h => h) (by rfl) ?hyqb0 sq ?restqb0
          case hyqb0 => (intro o ho W hW; simp only [List.getElem?_toArray, List.getElem?_cons_succ, List.getElem?_cons_zero, Option.some.injEq] at ho; subst ho; (try dsimp only at hW); skip; go_simp; try rfl)
          try simp only [Act.put, List.setIfInBounds_toArray, List.set_cons_zero, List.set_cons_succ]
          refine takeS 2 (some 19) ?vqb2 (by kernel_rfl) (by kernel_rfl) (by kernel_rfl) (by kernel_rfl) (fun _ _ _ h => h) (by rfl) ?hyqb2 sq ?restqb2
          case hyqb2 => (intro o ho W hW; simp only [List.getElem?_toArray, List.getElem?_cons_succ, List.getElem?_cons_zero, Option.some.injEq] at ho; subst ho; (try dsimp only at hW); skip; go_simp; try rfl)
          try simp only [Act.put, List.setIfInBounds_toArray, List.set_cons_zero, List.set_cons_succ]
          refine takeS 1 (some 18) ?vqb1 (by kernel_rfl) (by kernel_rfl) (by kernel_rfl) (by kernel_rfl) (fun _ _ _ h => h) (by rfl) ?hyqb1 sq ?restqb1
          case hyqb1 => (intro o ho W hW; simp only [List.getElem?_toArray, List.getElem?_cons_succ, List.getElem?_cons_zero, Option.some.injEq] at ho; subst ho; (try dsimp only at hW); obtain ⟨⟨g0, g1, g2⟩, -⟩ := blk3 hW.1; go_simp; try rfl)
          try simp only [Act.put, List.setIfInBounds_toArray, List.set_cons_zero, List.set_cons_succ]
          refine takeS 3 (some 20) ?vqb3 (by kernel_rfl) (by kernel_rfl) (by kernel_rfl) (by kernel_rfl) (fun _ _ _ h => h) (by rfl) ?hyqb3 sq ?restqb3
          case hyqb3 => (intro o ho W hW; simp only [List.getElem?_toArray, List.getElem?_cons_succ, List.getElem?_cons_zero, Option.some.injEq] at ho; subst ho; (try dsimp only at hW); skip; go_simp; try rfl)
          try simp only [Act.put, List.setIfInBounds_toArray, List.set_cons_zero, List.set_cons_succ]
          refine nextS 4 (by kernel_rfl) (by rfl) (fun o ho K hK => ?_)
          simp only [List.getElem?_toArray, List.getElem?_cons_succ, List.getElem?_cons_zero, Option.some.injEq] at ho; subst ho
          go_simp
          have sr : (fun W => Blk W wd.heap.size 46 #[.string a, .string b, .string c] ∧ Blk W (w.heap.size + 1) 46 #[.string ⟨#[]⟩, .string ⟨#[]⟩, .string ⟨#[]⟩] ∧ Below w.heap.size w W) (((wq.setCell ⟨w.heap.size + 1, 0, none⟩ (.string ⟨#[]⟩)).setCell ⟨w.heap.size + 1, 1, none⟩ (.string ⟨#[]⟩)).setCell ⟨w.heap.size + 1, 2, none⟩ (.string ⟨#[]⟩)) := ⟨blk3_far sq.1 n1 _ _ _, blk3_set sq.2.1 _ _ _, below_sets sq.2.2 (Nat.le_succ _) _ _ _⟩
          refine hK.out _ _ sr (fun _ => ?_)
          clear hK K
          try simp only [Act.put, List.setIfInBounds_toArray, List.set_cons_zero, List.set_cons_succ]
          refine takeS 5 (some 3) ?vqb5 (by kernel_rfl) (by kernel_rfl) (by kernel_rfl) (by kernel_rfl) (fun _ _ _ h => h) (by rfl) ?hyqb5 sr ?restqb5
          case hyqb5 => (intro o ho W hW; simp only [List.getElem?_toArray, List.getElem?_cons_succ, List.getElem?_cons_zero, Option.some.injEq] at ho; subst ho; (try dsimp only at hW); skip; go_simp; try rfl)
          try simp only [Act.put, List.setIfInBounds_toArray, List.set_cons_zero, List.set_cons_succ]
          refine wpAnyH_done (by kernel_rfl) ?_ _
          refine NoPanic.normal ?_
          obtain ⟨W9, hW9⟩ : ∃ W9, ((wq.setCell ⟨w.heap.size + 1, 0, none⟩ (.string ⟨#[]⟩)).setCell ⟨w.heap.size + 1, 1, none⟩ (.string ⟨#[]⟩)).setCell ⟨w.heap.size + 1, 2, none⟩ (.string ⟨#[]⟩) = W9 := ⟨_, rfl⟩
          rw [hW9] at sr
          rw [hW9]
          clear hW9 sq c0 c1 c2 f0 f1 f2
          obtain ⟨⟨c0, c1, c2⟩, -⟩ := blk3 sr.2.1
          go_wp2
          exact bodyPost_ret (v := .tuple #[.agg #[.string ⟨#[]⟩, .string ⟨#[]⟩, .string ⟨#[]⟩], .bool (s3 a b c ⟨#[]⟩ ⟨#[]⟩ ⟨#[]⟩)]) (by simp [results, Tryd.results18, go_sem, *]) rfl ⟨by rw [HR.out]; cases s3 a b c ⟨#[]⟩ ⟨#[]⟩ ⟨#[]⟩ <;> rfl, sr.2.2⟩
        | false =>
          have HR := Lib.hid (HS.out hae)
          cases op with
          | none =>
            have CQ := Lib.hid (fun W => (show Calls Tryd.prog 28 #[.string u] W fun e w' => e = .returned (.tuple #[.agg #[.string ⟨#[]⟩, .string ⟨#[]⟩, .string ⟨#[]⟩], .bool false]) ∧ Below W.heap.size W w' from CP.out W))
            go_wp2_with (first
              | (go_at_call 29; (with_reducible refine (CT.out _).mono ?_); rintro e w6 ⟨rfl, b6⟩; have B6 := B5.on b6; have R6 := r1.on b6; have z6 := below_on r2 r2.size b6)
              | (go_at_call 28; (with_reducible refine (CQ.out _).mono ?_); rintro e w7 ⟨rfl, b7⟩; have B8 := (B6.on b7).alloc (.cells #[.string ⟨#[]⟩, .string ⟨#[]⟩, .string ⟨#[]⟩] 46); have R8 := (R6.on b7).alloc (.cells #[.string ⟨#[]⟩, .string ⟨#[]⟩, .string ⟨#[]⟩] 46); have z8 := (below_on z6 z6.size b7).alloc (below_on z6 z6.size b7).size (.cells #[.string ⟨#[]⟩, .string ⟨#[]⟩, .string ⟨#[]⟩] 46); obtain ⟨⟨p0, p1, p2⟩, -⟩ := blk3 B8; obtain ⟨⟨c0, c1, c2⟩, f0, f1, f2⟩ := blk3 R8))
            have R9 := blk3_set R8 (.string ⟨#[]⟩) (.string ⟨#[]⟩) (.string ⟨#[]⟩)
            have z9 := below_sets z8 (Nat.le_succ _) (.string ⟨#[]⟩) (.string ⟨#[]⟩) (.string ⟨#[]⟩)
            clear c0 c1 c2
            obtain ⟨⟨c0, c1, c2⟩, -⟩ := blk3 R9
            exact bodyPost_ret (v := .tuple #[.agg #[.string ⟨#[]⟩, .string ⟨#[]⟩, .string ⟨#[]⟩], .bool false]) (by simp [results, Tryd.results18, go_sem, *]) rfl ⟨by rw [HR.out]; rfl, z9⟩
          | some q =>
            obtain ⟨a', ha'⟩ : ∃ a', D.sb q.l = a' := ⟨_, rfl⟩
            obtain ⟨b', hb'⟩ : ∃ b', D.sb q.s = b' := ⟨_, rfl⟩
            obtain ⟨c', hc'⟩ : ∃ c', D.sb q.r = c' := ⟨_, rfl⟩
            have CQ := Lib.hid (fun W => (show Calls Tryd.prog 28 #[.string u] W fun e w' => e = .returned (.tuple #[.agg #[.string a', .string b', .string c'], .bool true]) ∧ Below W.heap.size W w' from by rw [← ha', ← hb', ← hc']; exact CP.out W))
            have hr : D.rof x = if s3 a' b' c' a b c then some (D.frt x) else none := by rw [HR.out, ← ha', ← hb', ← hc']; rfl
            cases hz : s3 a' b' c' a b c with
            | true =>
              rw [hz] at hr
              have HQ := Lib.hid hr
              clear hr
              go_wp2_with (first
                | (go_at_call 29; (with_reducible refine (CT.out _).mono ?_); rintro e w6 ⟨rfl, b6⟩; have B6 := B5.on b6; have R6 := r1.on b6; have z6 := below_on r2 r2.size b6)
                | (go_at_call 28; (with_reducible refine (CQ.out _).mono ?_); rintro e w7 ⟨rfl, b7⟩; have B8 := (B6.on b7).alloc (.cells #[.string a', .string b', .string c'] 46); have R8 := (R6.on b7).alloc (.cells #[.string a', .string b', .string c'] 46); have z8 := (below_on z6 z6.size b7).alloc (below_on z6 z6.size b7).size (.cells #[.string a', .string b', .string c'] 46); obtain ⟨⟨p0, p1, p2⟩, -⟩ := blk3 B8; obtain ⟨⟨c0, c1, c2⟩, f0, f1, f2⟩ := blk3 R8))
              have R9 := blk3_set R8 (.string a) (.string b) (.string c)
              have z9 := below_sets z8 (Nat.le_succ _) (.string a) (.string b) (.string c)
              clear c0 c1 c2
              obtain ⟨⟨c0, c1, c2⟩, -⟩ := blk3 R9
              exact bodyPost_ret (v := .tuple #[.agg #[.string a, .string b, .string c], .bool true]) (by simp [results, Tryd.results18, go_sem, *]) rfl ⟨by rw [HQ.out]; show _ = Ending.returned (.tuple #[av (D.frt x), .bool true]); rw [HF.out _ rfl], z9⟩
            | false =>
              rw [hz] at hr
              have HQ := Lib.hid hr
              clear hr
              go_wp2_with (first
                | (go_at_call 29; (with_reducible refine (CT.out _).mono ?_); rintro e w6 ⟨rfl, b6⟩; have B6 := B5.on b6; have R6 := r1.on b6; have z6 := below_on r2 r2.size b6)
                | (go_at_call 28; (with_reducible refine (CQ.out _).mono ?_); rintro e w7 ⟨rfl, b7⟩; have B8 := (B6.on b7).alloc (.cells #[.string a', .string b', .string c'] 46); have R8 := (R6.on b7).alloc (.cells #[.string a', .string b', .string c'] 46); have z8 := (below_on z6 z6.size b7).alloc (below_on z6 z6.size b7).size (.cells #[.string a', .string b', .string c'] 46); obtain ⟨⟨p0, p1, p2⟩, -⟩ := blk3 B8; obtain ⟨⟨c0, c1, c2⟩, f0, f1, f2⟩ := blk3 R8))
              have R9 := blk3_set R8 (.string ⟨#[]⟩) (.string ⟨#[]⟩) (.string ⟨#[]⟩)
              have z9 := below_sets z8 (Nat.le_succ _) (.string ⟨#[]⟩) (.string ⟨#[]⟩) (.string ⟨#[]⟩)
              clear c0 c1 c2
              obtain ⟨⟨c0, c1, c2⟩, -⟩ := blk3 R9
              exact bodyPost_ret (v := .tuple #[.agg #[.string ⟨#[]⟩, .string ⟨#[]⟩, .string ⟨#[]⟩], .bool false]) (by simp [results, Tryd.results18, go_sem, *]) rfl ⟨by rw [HQ.out]; rfl, z9⟩
      · simp only [List.getElem?_toArray, List.getElem?_cons_succ, List.getElem?_cons_zero, Option.some.injEq] at ho; subst ho
        go_simp
        have s7 : (fun W => Blk W w.heap.size 50 (nc x) ∧ Blk W (w.heap.size + 1) 46 #[.string ⟨#[]⟩, .string ⟨#[]⟩, .string ⟨#[]⟩] ∧ Below w.heap.size w W ∧ w.heap.size + 2 ≤ W.heap.size) (wd.alloc (.cells #[.string ⟨#[]⟩, .string ⟨#[]⟩, .string ⟨#[]⟩] 46)) := ⟨s0.1.alloc _, s0.2.1.alloc _, s0.2.2.1.alloc s0.2.2.1.size _, Nat.le_trans s0.2.2.2 (below_alloc_ _ _).size⟩
        refine hK.out _ _ s7 (fun _ => ?_)
        clear hK K
        try simp only [Act.put, List.setIfInBounds_toArray, List.set_cons_zero, List.set_cons_succ]
        refine nextS 5 (by kernel_rfl) (by rfl) (fun o ho K hK => ?_)
        simp only [List.getElem?_toArray, List.getElem?_cons_succ, List.getElem?_cons_zero, Option.some.injEq] at ho; subst ho
        go_simp
        (go_at_call 27; (with_reducible refine (CC.out _ s7.1).mono ?_); rintro e w1 ⟨rfl, rfl⟩)
        refine hK.out _ _ s7 (fun _ => ?_)
        clear hK K
        try simp only [Act.put, List.setIfInBounds_toArray, List.set_cons_zero, List.set_cons_succ]
        refine takeS 6 (some 13) ?vc6 (by kernel_rfl) (by kernel_rfl) (by kernel_rfl) (by kernel_rfl) (fun _ _ _ h => h) (by rfl) ?hyc6 s7 ?restc6
        case hyc6 => (intro o ho W hW; simp only [List.getElem?_toArray, List.getElem?_cons_succ, List.getElem?_cons_zero, Option.some.injEq] at ho; subst ho; (try dsimp only at hW); skip; go_simp; try rfl)
        try simp only [Act.put, List.setIfInBounds_toArray, List.set_cons_zero, List.set_cons_succ]
        refine nextS 8 (by kernel_rfl) (by rfl) (fun o ho K hK => ?_)
        simp only [List.getElem?_toArray, List.getElem?_cons_succ, List.getElem?_cons_zero, Option.some.injEq] at ho; subst ho
        go_simp
        have B7 := Blk.new wd 46 #[.string a, .string b, .string c]
        have s8 : (fun W => Blk W w.heap.size 50 (nc x) ∧ Blk W (w.heap.size + 1) 46 #[.string ⟨#[]⟩, .string ⟨#[]⟩, .string ⟨#[]⟩] ∧ Below w.heap.size w W ∧ w.heap.size + 2 ≤ W.heap.size) (wd.alloc (.cells #[.string a, .string b, .string c] 46)) := ⟨s0.1.alloc _, s0.2.1.alloc _, s0.2.2.1.alloc s0.2.2.1.size _, Nat.le_trans s0.2.2.2 (below_alloc_ _ _).size⟩
        refine hK.out _ _ s8 (fun _ => ?_)
        clear hK K
        try simp only [Act.put, List.setIfInBounds_toArray, List.set_cons_zero, List.set_cons_succ]
        refine wpAnyH_done (by kernel_rfl) ?_ _
        refine NoPanic.normal ?_
        obtain ⟨W, hW⟩ : ∃ W, wd.alloc (.cells #[.string a, .string b, .string c] 46) = W := ⟨_, rfl⟩
        have B5 : Blk W wd.heap.size 46 #[.string a, .string b, .string c] := by rw [← hW]; exact Blk.new _ _ _
        rw [hW] at s8
        rw [hW]
        clear hW s0 B7 CA CB CC
        obtain ⟨-, r1, r2, r3⟩ := s8
        have n1 : wd.heap.size ≠ w.heap.size + 1 := Nat.ne_of_gt s0z
        have k5 := blk3 B5
        have k0 := k5.1.1
        have k1 := k5.1.2.1
        have k2 := k5.1.2.2
        cases hae : a.toList.isEmpty with
        | true =>
          have HR := Lib.hid (HN.out hae)
          go_wp2_with fail
          clear k5 k0 k1 k2
          have sq : (fun W => Blk W wd.heap.size 46 #[.string a, .string b, .string c] ∧ Blk W (w.heap.size + 1) 46 #[.string ⟨#[]⟩, .string ⟨#[]⟩, .string ⟨#[]⟩] ∧ Below w.heap.size w W) W.drew := ⟨⟨B5.out⟩, ⟨r1.out⟩, r2.drew⟩
          obtain ⟨⟨c0, c1, c2⟩, f0, f1, f2⟩ := blk3 sq.2.1
          refine wp_region_noPanic ?_
          refine wp_region_held_drew (S := fun W => Blk W wd.heap.size 46 #[.string a, .string b, .string c] ∧ Blk W (w.heap.size + 1) 46 #[.string ⟨#[]⟩, .string ⟨#[]⟩, .string ⟨#[]⟩] ∧ Below w.heap.size w W) (by kernel_rfl) sq (fun _ => ?_)
          obtain ⟨wq, hwq⟩ : ∃ wq, W.drew = wq := ⟨_, rfl⟩
          rw [hwq] at sq c0 c1 c2 f0 f1 f2
          rw [hwq]
          clear hwq
          refine takeS 0 (some 17) ?vqc0 (by kernel_rfl) (by kernel_rfl) (by kernel_rfl) (by kernel_rfl) (fun _ _ _ h => h) (by rfl) ?hyqc0 sq ?restqc0
          case hyqc0 => (intro o ho W hW; simp only [List.getElem?_toArray, List.getElem?_cons_succ, List.getElem?_cons_zero, Option.some.injEq] at ho; subst ho; (try dsimp only at hW); skip; go_simp; try rfl)
          try simp only [Act.put, List.setIfInBounds_toArray, List.set_cons_zero, List.set_cons_succ]
          refine takeS 2 (some 19) ?vqc2 (by kernel_rfl) (by kernel_rfl) (by kernel_rfl) (by kernel_rfl) (fun _ _ _ h => h) (by rfl) ?hyqc2 sq ?restqc2
          case hyqc2 => (intro o ho W hW; simp only [List.getElem?_toArray, List.getElem?_cons_succ, List.getElem?_cons_zero, Option.some.injEq] at ho; subst ho; (try dsimp only at hW); skip; go_simp; try rfl)
          try simp only [Act.put, List.setIfInBounds_toArray, List.set_cons_zero, List.set_cons_succ]
          refine takeS 1 (some 18) ?vqc1 (by kernel_rfl) (by kernel_rfl) (by kernel_rfl) (by kernel_rfl) (fun _ _ _ h => h) (by rfl) ?hyqc1 sq ?restqc1
          case hyqc1 => (intro o ho W hW; simp only [List.getElem?_toArray, List.getElem?_cons_succ, List.getElem?_cons_zero, Option.some.injEq] at ho; subst ho; (try dsimp only at hW); obtain ⟨⟨g0, g1, g2⟩, -⟩ := blk3 hW.1; go_simp; try rfl)
          try simp only [Act.put, List.setIfInBounds_toArray, List.set_cons_zero, List.set_cons_succ]
          refine takeS 3 (some 20) ?vqc3 (by kernel_rfl) (by kernel_rfl) (by kernel_rfl) (by kernel_rfl) (fun _ _ _ h => h) (by rfl) ?hyqc3 sq ?restqc3
          case hyqc3 => (intro o ho W hW; simp only [List.getElem?_toArray, List.getElem?_cons_succ, List.getElem?_cons_zero, Option.some.injEq] at ho; subst ho; (try dsimp only at hW); skip; go_simp; try rfl)
          try simp only [Act.put, List.setIfInBounds_toArray, List.set_cons_zero, List.set_cons_succ]
          refine nextS 4 (by kernel_rfl) (by rfl) (fun o ho K hK => ?_)
          simp only [List.getElem?_toArray, List.getElem?_cons_succ, List.getElem?_cons_zero, Option.some.injEq] at ho; subst ho
          go_simp
          have sr : (fun W => Blk W wd.heap.size 46 #[.string a, .string b, .string c] ∧ Blk W (w.heap.size + 1) 46 #[.string ⟨#[]⟩, .string ⟨#[]⟩, .string ⟨#[]⟩] ∧ Below w.heap.size w W) (((wq.setCell ⟨w.heap.size + 1, 0, none⟩ (.string ⟨#[]⟩)).setCell ⟨w.heap.size + 1, 1, none⟩ (.string ⟨#[]⟩)).setCell ⟨w.heap.size + 1, 2, none⟩ (.string ⟨#[]⟩)) := ⟨blk3_far sq.1 n1 _ _ _, blk3_set sq.2.1 _ _ _, below_sets sq.2.2 (Nat.le_succ _) _ _ _⟩
          refine hK.out _ _ sr (fun _ => ?_)
          clear hK K
          try simp only [Act.put, List.setIfInBounds_toArray, List.set_cons_zero, List.set_cons_succ]
          refine takeS 5 (some 3) ?vqc5 (by kernel_rfl) (by kernel_rfl) (by kernel_rfl) (by kernel_rfl) (fun _ _ _ h => h) (by rfl) ?hyqc5 sr ?restqc5
          case hyqc5 => (intro o ho W hW; simp only [List.getElem?_toArray, List.getElem?_cons_succ, List.getElem?_cons_zero, Option.some.injEq] at ho; subst ho; (try dsimp only at hW); skip; go_simp; try rfl)
          try simp only [Act.put, List.setIfInBounds_toArray, List.set_cons_zero, List.set_cons_succ]
          refine wpAnyH_done (by kernel_rfl) ?_ _
          refine NoPanic.normal ?_
          obtain ⟨W9, hW9⟩ : ∃ W9, ((wq.setCell ⟨w.heap.size + 1, 0, none⟩ (.string ⟨#[]⟩)).setCell ⟨w.heap.size + 1, 1, none⟩ (.string ⟨#[]⟩)).setCell ⟨w.heap.size + 1, 2, none⟩ (.string ⟨#[]⟩) = W9 := ⟨_, rfl⟩
          rw [hW9] at sr
          rw [hW9]
          clear hW9 sq c0 c1 c2 f0 f1 f2
          obtain ⟨⟨c0, c1, c2⟩, -⟩ := blk3 sr.2.1
          go_wp2
          exact bodyPost_ret (v := .tuple #[.agg #[.string ⟨#[]⟩, .string ⟨#[]⟩, .string ⟨#[]⟩], .bool (s3 a b c ⟨#[]⟩ ⟨#[]⟩ ⟨#[]⟩)]) (by simp [results, Tryd.results18, go_sem, *]) rfl ⟨by rw [HR.out]; cases s3 a b c ⟨#[]⟩ ⟨#[]⟩ ⟨#[]⟩ <;> rfl, sr.2.2⟩
        | false =>
          have HR := Lib.hid (HS.out hae)
          cases op with
          | none =>
            have CQ := Lib.hid (fun W => (show Calls Tryd.prog 28 #[.string u] W fun e w' => e = .returned (.tuple #[.agg #[.string ⟨#[]⟩, .string ⟨#[]⟩, .string ⟨#[]⟩], .bool false]) ∧ Below W.heap.size W w' from CP.out W))
            go_wp2_with (first
              | (go_at_call 29; (with_reducible refine (CT.out _).mono ?_); rintro e w6 ⟨rfl, b6⟩; have B6 := B5.on b6; have R6 := r1.on b6; have z6 := below_on r2 r2.size b6)
              | (go_at_call 28; (with_reducible refine (CQ.out _).mono ?_); rintro e w7 ⟨rfl, b7⟩; have B8 := (B6.on b7).alloc (.cells #[.string ⟨#[]⟩, .string ⟨#[]⟩, .string ⟨#[]⟩] 46); have R8 := (R6.on b7).alloc (.cells #[.string ⟨#[]⟩, .string ⟨#[]⟩, .string ⟨#[]⟩] 46); have z8 := (below_on z6 z6.size b7).alloc (below_on z6 z6.size b7).size (.cells #[.string ⟨#[]⟩, .string ⟨#[]⟩, .string ⟨#[]⟩] 46); obtain ⟨⟨p0, p1, p2⟩, -⟩ := blk3 B8; obtain ⟨⟨c0, c1, c2⟩, f0, f1, f2⟩ := blk3 R8))
            have R9 := blk3_set R8 (.string ⟨#[]⟩) (.string ⟨#[]⟩) (.string ⟨#[]⟩)
            have z9 := below_sets z8 (Nat.le_succ _) (.string ⟨#[]⟩) (.string ⟨#[]⟩) (.string ⟨#[]⟩)
            clear c0 c1 c2
            obtain ⟨⟨c0, c1, c2⟩, -⟩ := blk3 R9
            exact bodyPost_ret (v := .tuple #[.agg #[.string ⟨#[]⟩, .string ⟨#[]⟩, .string ⟨#[]⟩], .bool false]) (by simp [results, Tryd.results18, go_sem, *]) rfl ⟨by rw [HR.out]; rfl, z9⟩
          | some q =>
            obtain ⟨a', ha'⟩ : ∃ a', D.sb q.l = a' := ⟨_, rfl⟩
            obtain ⟨b', hb'⟩ : ∃ b', D.sb q.s = b' := ⟨_, rfl⟩
            obtain ⟨c', hc'⟩ : ∃ c', D.sb q.r = c' := ⟨_, rfl⟩
            have CQ := Lib.hid (fun W => (show Calls Tryd.prog 28 #[.string u] W fun e w' => e = .returned (.tuple #[.agg #[.string a', .string b', .string c'], .bool true]) ∧ Below W.heap.size W w' from by rw [← ha', ← hb', ← hc']; exact CP.out W))
            have hr : D.rof x = if s3 a' b' c' a b c then some (D.frt x) else none := by rw [HR.out, ← ha', ← hb', ← hc']; rfl
            cases hz : s3 a' b' c' a b c with
            | true =>
              rw [hz] at hr
              have HQ := Lib.hid hr
              clear hr
              go_wp2_with (first
                | (go_at_call 29; (with_reducible refine (CT.out _).mono ?_); rintro e w6 ⟨rfl, b6⟩; have B6 := B5.on b6; have R6 := r1.on b6; have z6 := below_on r2 r2.size b6)
                | (go_at_call 28; (with_reducible refine (CQ.out _).mono ?_); rintro e w7 ⟨rfl, b7⟩; have B8 := (B6.on b7).alloc (.cells #[.string a', .string b', .string c'] 46); have R8 := (R6.on b7).alloc (.cells #[.string a', .string b', .string c'] 46); have z8 := (below_on z6 z6.size b7).alloc (below_on z6 z6.size b7).size (.cells #[.string a', .string b', .string c'] 46); obtain ⟨⟨p0, p1, p2⟩, -⟩ := blk3 B8; obtain ⟨⟨c0, c1, c2⟩, f0, f1, f2⟩ := blk3 R8))
              have R9 := blk3_set R8 (.string a) (.string b) (.string c)
              have z9 := below_sets z8 (Nat.le_succ _) (.string a) (.string b) (.string c)
              clear c0 c1 c2
              obtain ⟨⟨c0, c1, c2⟩, -⟩ := blk3 R9
              exact bodyPost_ret (v := .tuple #[.agg #[.string a, .string b, .string c], .bool true]) (by simp [results, Tryd.results18, go_sem, *]) rfl ⟨by rw [HQ.out]; show _ = Ending.returned (.tuple #[av (D.frt x), .bool true]); rw [HF.out _ rfl], z9⟩
            | false =>
              rw [hz] at hr
              have HQ := Lib.hid hr
              clear hr
              go_wp2_with (first
                | (go_at_call 29; (with_reducible refine (CT.out _).mono ?_); rintro e w6 ⟨rfl, b6⟩; have B6 := B5.on b6; have R6 := r1.on b6; have z6 := below_on r2 r2.size b6)
                | (go_at_call 28; (with_reducible refine (CQ.out _).mono ?_); rintro e w7 ⟨rfl, b7⟩; have B8 := (B6.on b7).alloc (.cells #[.string a', .string b', .string c'] 46); have R8 := (R6.on b7).alloc (.cells #[.string a', .string b', .string c'] 46); have z8 := (below_on z6 z6.size b7).alloc (below_on z6 z6.size b7).size (.cells #[.string a', .string b', .string c'] 46); obtain ⟨⟨p0, p1, p2⟩, -⟩ := blk3 B8; obtain ⟨⟨c0, c1, c2⟩, f0, f1, f2⟩ := blk3 R8))
              have R9 := blk3_set R8 (.string ⟨#[]⟩) (.string ⟨#[]⟩) (.string ⟨#[]⟩)
              have z9 := below_sets z8 (Nat.le_succ _) (.string ⟨#[]⟩) (.string ⟨#[]⟩) (.string ⟨#[]⟩)
              clear c0 c1 c2
              obtain ⟨⟨c0, c1, c2⟩, -⟩ := blk3 R9
              exact bodyPost_ret (v := .tuple #[.agg #[.string ⟨#[]⟩, .string ⟨#[]⟩, .string ⟨#[]⟩], .bool false]) (by simp [results, Tryd.results18, go_sem, *]) rfl ⟨by rw [HQ.out]; rfl, z9⟩
    · simp only [List.getElem?_toArray, List.getElem?_cons_succ, List.getElem?_cons_zero, Option.some.injEq] at ho; subst ho
      go_simp
      have s7 : (fun W => Blk W w.heap.size 50 (nc x) ∧ Blk W (w.heap.size + 1) 46 #[.string ⟨#[]⟩, .string ⟨#[]⟩, .string ⟨#[]⟩] ∧ Below w.heap.size w W ∧ w.heap.size + 2 ≤ W.heap.size) (wd.alloc (.cells #[.string ⟨#[]⟩, .string ⟨#[]⟩, .string ⟨#[]⟩] 46)) := ⟨s0.1.alloc _, s0.2.1.alloc _, s0.2.2.1.alloc s0.2.2.1.size _, Nat.le_trans s0.2.2.2 (below_alloc_ _ _).size⟩
      refine hK.out _ _ s7 (fun _ => ?_)
      clear hK K
      try simp only [Act.put, List.setIfInBounds_toArray, List.set_cons_zero, List.set_cons_succ]
      refine nextS 3 (by kernel_rfl) (by rfl) (fun o ho K hK => ?_)
      simp only [List.getElem?_toArray, List.getElem?_cons_succ, List.getElem?_cons_zero, Option.some.injEq] at ho; subst ho
      go_simp
      (go_at_call 27; (with_reducible refine (CB.out _ s7.1).mono ?_); rintro e w1 ⟨rfl, rfl⟩)
      refine hK.out _ _ s7 (fun _ => ?_)
      clear hK K
      try simp only [Act.put, List.setIfInBounds_toArray, List.set_cons_zero, List.set_cons_succ]
      refine nextS 5 (by kernel_rfl) (by rfl) (fun o ho K hK => ?_)
      simp only [List.getElem?_toArray, List.getElem?_cons_succ, List.getElem?_cons_zero, Option.some.injEq] at ho; subst ho
      go_simp
      (go_at_call 27; (with_reducible refine (CC.out _ s7.1).mono ?_); rintro e w1 ⟨rfl, rfl⟩)
      refine hK.out _ _ s7 (fun _ => ?_)
      clear hK K
      try simp only [Act.put, List.setIfInBounds_toArray, List.set_cons_zero, List.set_cons_succ]
      refine takeS 6 (some 13) ?vd6 (by kernel_rfl) (by kernel_rfl) (by kernel_rfl) (by kernel_rfl) (fun _ _ _ h => h) (by rfl) ?hyd6 s7 ?restd6
      case hyd6 => (intro o ho W hW; simp only [List.getElem?_toArray, List.getElem?_cons_succ, List.getElem?_cons_zero, Option.some.injEq] at ho; subst ho; (try dsimp only at hW); skip; go_simp; try rfl)
      try simp only [Act.put, List.setIfInBounds_toArray, List.set_cons_zero, List.set_cons_succ]
      refine nextS 8 (by kernel_rfl) (by rfl) (fun o ho K hK => ?_)
      simp only [List.getElem?_toArray, List.getElem?_cons_succ, List.getElem?_cons_zero, Option.some.injEq] at ho; subst ho
      go_simp
      have B7 := Blk.new wd 46 #[.string a, .string b, .string c]
      have s8 : (fun W => Blk W w.heap.size 50 (nc x) ∧ Blk W (w.heap.size + 1) 46 #[.string ⟨#[]⟩, .string ⟨#[]⟩, .string ⟨#[]⟩] ∧ Below w.heap.size w W ∧ w.heap.size + 2 ≤ W.heap.size) (wd.alloc (.cells #[.string a, .string b, .string c] 46)) := ⟨s0.1.alloc _, s0.2.1.alloc _, s0.2.2.1.alloc s0.2.2.1.size _, Nat.le_trans s0.2.2.2 (below_alloc_ _ _).size⟩
      refine hK.out _ _ s8 (fun _ => ?_)
      clear hK K
      try simp only [Act.put, List.setIfInBounds_toArray, List.set_cons_zero, List.set_cons_succ]
      refine wpAnyH_done (by kernel_rfl) ?_ _
      refine NoPanic.normal ?_
      obtain ⟨W, hW⟩ : ∃ W, wd.alloc (.cells #[.string a, .string b, .string c] 46) = W := ⟨_, rfl⟩
      have B5 : Blk W wd.heap.size 46 #[.string a, .string b, .string c] := by rw [← hW]; exact Blk.new _ _ _
      rw [hW] at s8
      rw [hW]
      clear hW s0 B7 CA CB CC
      obtain ⟨-, r1, r2, r3⟩ := s8
      have n1 : wd.heap.size ≠ w.heap.size + 1 := Nat.ne_of_gt s0z
      have k5 := blk3 B5
      have k0 := k5.1.1
      have k1 := k5.1.2.1
      have k2 := k5.1.2.2
      cases hae : a.toList.isEmpty with
      | true =>
        have HR := Lib.hid (HN.out hae)
        go_wp2_with fail
        clear k5 k0 k1 k2
        have sq : (fun W => Blk W wd.heap.size 46 #[.string a, .string b, .string c] ∧ Blk W (w.heap.size + 1) 46 #[.string ⟨#[]⟩, .string ⟨#[]⟩, .string ⟨#[]⟩] ∧ Below w.heap.size w W) W.drew := ⟨⟨B5.out⟩, ⟨r1.out⟩, r2.drew⟩
        obtain ⟨⟨c0, c1, c2⟩, f0, f1, f2⟩ := blk3 sq.2.1
        refine wp_region_noPanic ?_
        refine wp_region_held_drew (S := fun W => Blk W wd.heap.size 46 #[.string a, .string b, .string c] ∧ Blk W (w.heap.size + 1) 46 #[.string ⟨#[]⟩, .string ⟨#[]⟩, .string ⟨#[]⟩] ∧ Below w.heap.size w W) (by kernel_rfl) sq (fun _ => ?_)
        obtain ⟨wq, hwq⟩ : ∃ wq, W.drew = wq := ⟨_, rfl⟩
        rw [hwq] at sq c0 c1 c2 f0 f1 f2
        rw [hwq]
        clear hwq
        refine takeS 0 (some 17) ?vqd0 (by kernel_rfl) (by kernel_rfl) (by kernel_rfl) (by kernel_rfl) (fun _ _ _ h => h) (by rfl) ?hyqd0 sq ?restqd0
        case hyqd0 => (intro o ho W hW; simp only [List.getElem?_toArray, List.getElem?_cons_succ, List.getElem?_cons_zero, Option.some.injEq] at ho; subst ho; (try dsimp only at hW); skip; go_simp; try rfl)
        try simp only [Act.put, List.setIfInBounds_toArray, List.set_cons_zero, List.set_cons_succ]
        refine takeS 2 (some 19) ?vqd2 (by kernel_rfl) (by kernel_rfl) (by kernel_rfl) (by kernel_rfl) (fun _ _ _ h => h) (by rfl) ?hyqd2 sq ?restqd2
        case hyqd2 => (intro o ho W hW; simp only [List.getElem?_toArray, List.getElem?_cons_succ, List.getElem?_cons_zero, Option.some.injEq] at ho; subst ho; (try dsimp only at hW); skip; go_simp; try rfl)
        try simp only [Act.put, List.setIfInBounds_toArray, List.set_cons_zero, List.set_cons_succ]
        refine takeS 1 (some 18) ?vqd1 (by kernel_rfl) (by kernel_rfl) (by kernel_rfl) (by kernel_rfl) (fun _ _ _ h => h) (by rfl) ?hyqd1 sq ?restqd1
        case hyqd1 => (intro o ho W hW; simp only [List.getElem?_toArray, List.getElem?_cons_succ, List.getElem?_cons_zero, Option.some.injEq] at ho; subst ho; (try dsimp only at hW); obtain ⟨⟨g0, g1, g2⟩, -⟩ := blk3 hW.1; go_simp; try rfl)
        try simp only [Act.put, List.setIfInBounds_toArray, List.set_cons_zero, List.set_cons_succ]
        refine takeS 3 (some 20) ?vqd3 (by kernel_rfl) (by kernel_rfl) (by kernel_rfl) (by kernel_rfl) (fun _ _ _ h => h) (by rfl) ?hyqd3 sq ?restqd3
        case hyqd3 => (intro o ho W hW; simp only [List.getElem?_toArray, List.getElem?_cons_succ, List.getElem?_cons_zero, Option.some.injEq] at ho; subst ho; (try dsimp only at hW); skip; go_simp; try rfl)
        try simp only [Act.put, List.setIfInBounds_toArray, List.set_cons_zero, List.set_cons_succ]
        refine nextS 4 (by kernel_rfl) (by rfl) (fun o ho K hK => ?_)
        simp only [List.getElem?_toArray, List.getElem?_cons_succ, List.getElem?_cons_zero, Option.some.injEq] at ho; subst ho
        go_simp
        have sr : (fun W => Blk W wd.heap.size 46 #[.string a, .string b, .string c] ∧ Blk W (w.heap.size + 1) 46 #[.string ⟨#[]⟩, .string ⟨#[]⟩, .string ⟨#[]⟩] ∧ Below w.heap.size w W) (((wq.setCell ⟨w.heap.size + 1, 0, none⟩ (.string ⟨#[]⟩)).setCell ⟨w.heap.size + 1, 1, none⟩ (.string ⟨#[]⟩)).setCell ⟨w.heap.size + 1, 2, none⟩ (.string ⟨#[]⟩)) := ⟨blk3_far sq.1 n1 _ _ _, blk3_set sq.2.1 _ _ _, below_sets sq.2.2 (Nat.le_succ _) _ _ _⟩
        refine hK.out _ _ sr (fun _ => ?_)
        clear hK K
        try simp only [Act.put, List.setIfInBounds_toArray, List.set_cons_zero, List.set_cons_succ]
        refine takeS 5 (some 3) ?vqd5 (by kernel_rfl) (by kernel_rfl) (by kernel_rfl) (by kernel_rfl) (fun _ _ _ h => h) (by rfl) ?hyqd5 sr ?restqd5
        case hyqd5 => (intro o ho W hW; simp only [List.getElem?_toArray, List.getElem?_cons_succ, List.getElem?_cons_zero, Option.some.injEq] at ho; subst ho; (try dsimp only at hW); skip; go_simp; try rfl)
        try simp only [Act.put, List.setIfInBounds_toArray, List.set_cons_zero, List.set_cons_succ]
        refine wpAnyH_done (by kernel_rfl) ?_ _
        refine NoPanic.normal ?_
        obtain ⟨W9, hW9⟩ : ∃ W9, ((wq.setCell ⟨w.heap.size + 1, 0, none⟩ (.string ⟨#[]⟩)).setCell ⟨w.heap.size + 1, 1, none⟩ (.string ⟨#[]⟩)).setCell ⟨w.heap.size + 1, 2, none⟩ (.string ⟨#[]⟩) = W9 := ⟨_, rfl⟩
        rw [hW9] at sr
        rw [hW9]
        clear hW9 sq c0 c1 c2 f0 f1 f2
        obtain ⟨⟨c0, c1, c2⟩, -⟩ := blk3 sr.2.1
        go_wp2
        exact bodyPost_ret (v := .tuple #[.agg #[.string ⟨#[]⟩, .string ⟨#[]⟩, .string ⟨#[]⟩], .bool (s3 a b c ⟨#[]⟩ ⟨#[]⟩ ⟨#[]⟩)]) (by simp [results, Tryd.results18, go_sem, *]) rfl ⟨by rw [HR.out]; cases s3 a b c ⟨#[]⟩ ⟨#[]⟩ ⟨#[]⟩ <;> rfl, sr.2.2⟩
      | false =>
        have HR := Lib.hid (HS.out hae)
        cases op with
        | none =>
          have CQ := Lib.hid (fun W => (show Calls Tryd.prog 28 #[.string u] W fun e w' => e = .returned (.tuple #[.agg #[.string ⟨#[]⟩, .string ⟨#[]⟩, .string ⟨#[]⟩], .bool false]) ∧ Below W.heap.size W w' from CP.out W))
          go_wp2_with (first
            | (go_at_call 29; (with_reducible refine (CT.out _).mono ?_); rintro e w6 ⟨rfl, b6⟩; have B6 := B5.on b6; have R6 := r1.on b6; have z6 := below_on r2 r2.size b6)
            | (go_at_call 28; (with_reducible refine (CQ.out _).mono ?_); rintro e w7 ⟨rfl, b7⟩; have B8 := (B6.on b7).alloc (.cells #[.string ⟨#[]⟩, .string ⟨#[]⟩, .string ⟨#[]⟩] 46); have R8 := (R6.on b7).alloc (.cells #[.string ⟨#[]⟩, .string ⟨#[]⟩, .string ⟨#[]⟩] 46); have z8 := (below_on z6 z6.size b7).alloc (below_on z6 z6.size b7).size (.cells #[.string ⟨#[]⟩, .string ⟨#[]⟩, .string ⟨#[]⟩] 46); obtain ⟨⟨p0, p1, p2⟩, -⟩ := blk3 B8; obtain ⟨⟨c0, c1, c2⟩, f0, f1, f2⟩ := blk3 R8))
          have R9 := blk3_set R8 (.string ⟨#[]⟩) (.string ⟨#[]⟩) (.string ⟨#[]⟩)
          have z9 := below_sets z8 (Nat.le_succ _) (.string ⟨#[]⟩) (.string ⟨#[]⟩) (.string ⟨#[]⟩)
          clear c0 c1 c2
          obtain ⟨⟨c0, c1, c2⟩, -⟩ := blk3 R9
          exact bodyPost_ret (v := .tuple #[.agg #[.string ⟨#[]⟩, .string ⟨#[]⟩, .string ⟨#[]⟩], .bool false]) (by simp [results, Tryd.results18, go_sem, *]) rfl ⟨by rw [HR.out]; rfl, z9⟩
        | some q =>
          obtain ⟨a', ha'⟩ : ∃ a', D.sb q.l = a' := ⟨_, rfl⟩
          obtain ⟨b', hb'⟩ : ∃ b', D.sb q.s = b' := ⟨_, rfl⟩
          obtain ⟨c', hc'⟩ : ∃ c', D.sb q.r = c' := ⟨_, rfl⟩
          have CQ := Lib.hid (fun W => (show Calls Tryd.prog 28 #[.string u] W fun e w' => e = .returned (.tuple #[.agg #[.string a', .string b', .string c'], .bool true]) ∧ Below W.heap.size W w' from by rw [← ha', ← hb', ← hc']; exact CP.out W))
          have hr : D.rof x = if s3 a' b' c' a b c then some (D.frt x) else none := by rw [HR.out, ← ha', ← hb', ← hc']; rfl
          cases hz : s3 a' b' c' a b c with
          | true =>
            rw [hz] at hr
            have HQ := Lib.hid hr
            clear hr
            go_wp2_with (first
              | (go_at_call 29; (with_reducible refine (CT.out _).mono ?_); rintro e w6 ⟨rfl, b6⟩; have B6 := B5.on b6; have R6 := r1.on b6; have z6 := below_on r2 r2.size b6)
              | (go_at_call 28; (with_reducible refine (CQ.out _).mono ?_); rintro e w7 ⟨rfl, b7⟩; have B8 := (B6.on b7).alloc (.cells #[.string a', .string b', .string c'] 46); have R8 := (R6.on b7).alloc (.cells #[.string a', .string b', .string c'] 46); have z8 := (below_on z6 z6.size b7).alloc (below_on z6 z6.size b7).size (.cells #[.string a', .string b', .string c'] 46); obtain ⟨⟨p0, p1, p2⟩, -⟩ := blk3 B8; obtain ⟨⟨c0, c1, c2⟩, f0, f1, f2⟩ := blk3 R8))
            have R9 := blk3_set R8 (.string a) (.string b) (.string c)
            have z9 := below_sets z8 (Nat.le_succ _) (.string a) (.string b) (.string c)
            clear c0 c1 c2
            obtain ⟨⟨c0, c1, c2⟩, -⟩ := blk3 R9
            exact bodyPost_ret (v := .tuple #[.agg #[.string a, .string b, .string c], .bool true]) (by simp [results, Tryd.results18, go_sem, *]) rfl ⟨by rw [HQ.out]; show _ = Ending.returned (.tuple #[av (D.frt x), .bool true]); rw [HF.out _ rfl], z9⟩
          | false =>
            rw [hz] at hr
            have HQ := Lib.hid hr
            clear hr
            go_wp2_with (first
              | (go_at_call 29; (with_reducible refine (CT.out _).mono ?_); rintro e w6 ⟨rfl, b6⟩; have B6 := B5.on b6; have R6 := r1.on b6; have z6 := below_on r2 r2.size b6)
              | (go_at_call 28; (with_reducible refine (CQ.out _).mono ?_); rintro e w7 ⟨rfl, b7⟩; have B8 := (B6.on b7).alloc (.cells #[.string a', .string b', .string c'] 46); have R8 := (R6.on b7).alloc (.cells #[.string a', .string b', .string c'] 46); have z8 := (below_on z6 z6.size b7).alloc (below_on z6 z6.size b7).size (.cells #[.string a', .string b', .string c'] 46); obtain ⟨⟨p0, p1, p2⟩, -⟩ := blk3 B8; obtain ⟨⟨c0, c1, c2⟩, f0, f1, f2⟩ := blk3 R8))
            have R9 := blk3_set R8 (.string ⟨#[]⟩) (.string ⟨#[]⟩) (.string ⟨#[]⟩)
            have z9 := below_sets z8 (Nat.le_succ _) (.string ⟨#[]⟩) (.string ⟨#[]⟩) (.string ⟨#[]⟩)
            clear c0 c1 c2
            obtain ⟨⟨c0, c1, c2⟩, -⟩ := blk3 R9
            exact bodyPost_ret (v := .tuple #[.agg #[.string ⟨#[]⟩, .string ⟨#[]⟩, .string ⟨#[]⟩], .bool false]) (by simp [results, Tryd.results18, go_sem, *]) rfl ⟨by rw [HQ.out]; rfl, z9⟩
  · simp only [List.getElem?_toArray, List.getElem?_cons_succ, List.getElem?_cons_zero, Option.some.injEq] at ho; subst ho
    go_simp
    have s7 : (fun W => Blk W w.heap.size 50 (nc x) ∧ Blk W (w.heap.size + 1) 46 #[.string ⟨#[]⟩, .string ⟨#[]⟩, .string ⟨#[]⟩] ∧ Below w.heap.size w W ∧ w.heap.size + 2 ≤ W.heap.size) (wd.alloc (.cells #[.string ⟨#[]⟩, .string ⟨#[]⟩, .string ⟨#[]⟩] 46)) := ⟨s0.1.alloc _, s0.2.1.alloc _, s0.2.2.1.alloc s0.2.2.1.size _, Nat.le_trans s0.2.2.2 (below_alloc_ _ _).size⟩
    refine hK.out _ _ s7 (fun _ => ?_)
    clear hK K
    try simp only [Act.put, List.setIfInBounds_toArray, List.set_cons_zero, List.set_cons_succ]
    refine nextS 1 (by kernel_rfl) (by rfl) (fun o ho K hK => ?_)
    simp only [List.getElem?_toArray, List.getElem?_cons_succ, List.getElem?_cons_zero, Option.some.injEq] at ho; subst ho
    go_simp
    (go_at_call 27; (with_reducible refine (CA.out _ s7.1).mono ?_); rintro e w1 ⟨rfl, rfl⟩)
    refine hK.out _ _ s7 (fun _ => ?_)
    clear hK K
    try simp only [Act.put, List.setIfInBounds_toArray, List.set_cons_zero, List.set_cons_succ]
    refine nextS 3 (by kernel_rfl) (by rfl) (fun o ho K hK => ?_)
    simp only [List.getElem?_toArray, List.getElem?_cons_succ, List.getElem?_cons_zero, Option.some.injEq] at ho; subst ho
    go_simp
    (go_at_call 27; (with_reducible refine (CB.out _ s7.1).mono ?_); rintro e w1 ⟨rfl, rfl⟩)
    refine hK.out _ _ s7 (fun _ => ?_)
    clear hK K
    try simp only [Act.put, List.setIfInBounds_toArray, List.set_cons_zero, List.set_cons_succ]
    refine nextS 5 (by kernel_rfl) (by rfl) (fun o ho K hK => ?_)
    simp only [List.getElem?_toArray, List.getElem?_cons_succ, List.getElem?_cons_zero, Option.some.injEq] at ho; subst ho
    go_simp
    (go_at_call 27; (with_reducible refine (CC.out _ s7.1).mono ?_); rintro e w1 ⟨rfl, rfl⟩)
    refine hK.out _ _ s7 (fun _ => ?_)
    clear hK K
    try simp only [Act.put, List.setIfInBounds_toArray, List.set_cons_zero, List.set_cons_succ]
    refine takeS 6 (some 13) ?ve6 (by kernel_rfl) (by kernel_rfl) (by kernel_rfl) (by kernel_rfl) (fun _ _ _ h => h) (by rfl) ?hye6 s7 ?reste6
    case hye6 => (intro o ho W hW; simp only [List.getElem?_toArray, List.getElem?_cons_succ, List.getElem?_cons_zero, Option.some.injEq] at ho; subst ho; (try dsimp only at hW); skip; go_simp; try rfl)
    try simp only [Act.put, List.setIfInBounds_toArray, List.set_cons_zero, List.set_cons_succ]
    refine nextS 8 (by kernel_rfl) (by rfl) (fun o ho K hK => ?_)
    simp only [List.getElem?_toArray, List.getElem?_cons_succ, List.getElem?_cons_zero, Option.some.injEq] at ho; subst ho
    go_simp
    have B7 := Blk.new wd 46 #[.string a, .string b, .string c]
    have s8 : (fun W => Blk W w.heap.size 50 (nc x) ∧ Blk W (w.heap.size + 1) 46 #[.string ⟨#[]⟩, .string ⟨#[]⟩, .string ⟨#[]⟩] ∧ Below w.heap.size w W ∧ w.heap.size + 2 ≤ W.heap.size) (wd.alloc (.cells #[.string a, .string b, .string c] 46)) := ⟨s0.1.alloc _, s0.2.1.alloc _, s0.2.2.1.alloc s0.2.2.1.size _, Nat.le_trans s0.2.2.2 (below_alloc_ _ _).size⟩
    refine hK.out _ _ s8 (fun _ => ?_)
    clear hK K
    try simp only [Act.put, List.setIfInBounds_toArray, List.set_cons_zero, List.set_cons_succ]
    refine wpAnyH_done (by kernel_rfl) ?_ _
    refine NoPanic.normal ?_
    obtain ⟨W, hW⟩ : ∃ W, wd.alloc (.cells #[.string a, .string b, .string c] 46) = W := ⟨_, rfl⟩
    have B5 : Blk W wd.heap.size 46 #[.string a, .string b, .string c] := by rw [← hW]; exact Blk.new _ _ _
    rw [hW] at s8
    rw [hW]
    clear hW s0 B7 CA CB CC
    obtain ⟨-, r1, r2, r3⟩ := s8
    have n1 : wd.heap.size ≠ w.heap.size + 1 := Nat.ne_of_gt s0z
    have k5 := blk3 B5
    have k0 := k5.1.1
    have k1 := k5.1.2.1
    have k2 := k5.1.2.2
    cases hae : a.toList.isEmpty with
    | true =>
      have HR := Lib.hid (HN.out hae)
      go_wp2_with fail
      clear k5 k0 k1 k2
      have sq : (fun W => Blk W wd.heap.size 46 #[.string a, .string b, .string c] ∧ Blk W (w.heap.size + 1) 46 #[.string ⟨#[]⟩, .string ⟨#[]⟩, .string ⟨#[]⟩] ∧ Below w.heap.size w W) W.drew := ⟨⟨B5.out⟩, ⟨r1.out⟩, r2.drew⟩
      obtain ⟨⟨c0, c1, c2⟩, f0, f1, f2⟩ := blk3 sq.2.1
      refine wp_region_noPanic ?_
      refine wp_region_held_drew (S := fun W => Blk W wd.heap.size 46 #[.string a, .string b, .string c] ∧ Blk W (w.heap.size + 1) 46 #[.string ⟨#[]⟩, .string ⟨#[]⟩, .string ⟨#[]⟩] ∧ Below w.heap.size w W) (by kernel_rfl) sq (fun _ => ?_)
      obtain ⟨wq, hwq⟩ : ∃ wq, W.drew = wq := ⟨_, rfl⟩
      rw [hwq] at sq c0 c1 c2 f0 f1 f2
      rw [hwq]
      clear hwq
      refine takeS 0 (some 17) ?vqe0 (by kernel_rfl) (by kernel_rfl) (by kernel_rfl) (by kernel_rfl) (fun _ _ _ h => h) (by rfl) ?hyqe0 sq ?restqe0
      case hyqe0 => (intro o ho W hW; simp only [List.getElem?_toArray, List.getElem?_cons_succ, List.getElem?_cons_zero, Option.some.injEq] at ho; subst ho; (try dsimp only at hW); skip; go_simp; try rfl)
      try simp only [Act.put, List.setIfInBounds_toArray, List.set_cons_zero, List.set_cons_succ]
      refine takeS 2 (some 19) ?vqe2 (by kernel_rfl) (by kernel_rfl) (by kernel_rfl) (by kernel_rfl) (fun _ _ _ h => h) (by rfl) ?hyqe2 sq ?restqe2
      case hyqe2 => (intro o ho W hW; simp only [List.getElem?_toArray, List.getElem?_cons_succ, List.getElem?_cons_zero, Option.some.injEq] at ho; subst ho; (try dsimp only at hW); skip; go_simp; try rfl)
      try simp only [Act.put, List.setIfInBounds_toArray, List.set_cons_zero, List.set_cons_succ]
      refine takeS 1 (some 18) ?vqe1 (by kernel_rfl) (by kernel_rfl) (by kernel_rfl) (by kernel_rfl) (fun _ _ _ h => h) (by rfl) ?hyqe1 sq ?restqe1
      case hyqe1 => (intro o ho W hW; simp only [List.getElem?_toArray, List.getElem?_cons_succ, List.getElem?_cons_zero, Option.some.injEq] at ho; subst ho; (try dsimp only at hW); obtain ⟨⟨g0, g1, g2⟩, -⟩ := blk3 hW.1; go_simp; try rfl)
      try simp only [Act.put, List.setIfInBounds_toArray, List.set_cons_zero, List.set_cons_succ]
      refine takeS 3 (some 20) ?vqe3 (by kernel_rfl) (by kernel_rfl) (by kernel_rfl) (by kernel_rfl) (fun _ _ _ h => h) (by rfl) ?hyqe3 sq ?restqe3
      case hyqe3 => (intro o ho W hW; simp only [List.getElem?_toArray, List.getElem?_cons_succ, List.getElem?_cons_zero, Option.some.injEq] at ho; subst ho; (try dsimp only at hW); skip; go_simp; try rfl)
      try simp only [Act.put, List.setIfInBounds_toArray, List.set_cons_zero, List.set_cons_succ]
      refine nextS 4 (by kernel_rfl) (by rfl) (fun o ho K hK => ?_)
      simp only [List.getElem?_toArray, List.getElem?_cons_succ, List.getElem?_cons_zero, Option.some.injEq] at ho; subst ho
      go_simp
      have sr : (fun W => Blk W wd.heap.size 46 #[.string a, .string b, .string c] ∧ Blk W (w.heap.size + 1) 46 #[.string ⟨#[]⟩, .string ⟨#[]⟩, .string ⟨#[]⟩] ∧ Below w.heap.size w W) (((wq.setCell ⟨w.heap.size + 1, 0, none⟩ (.string ⟨#[]⟩)).setCell ⟨w.heap.size + 1, 1, none⟩ (.string ⟨#[]⟩)).setCell ⟨w.heap.size + 1, 2, none⟩ (.string ⟨#[]⟩)) := ⟨blk3_far sq.1 n1 _ _ _, blk3_set sq.2.1 _ _ _, below_sets sq.2.2 (Nat.le_succ _) _ _ _⟩
      refine hK.out _ _ sr (fun _ => ?_)
      clear hK K
      try simp only [Act.put, List.setIfInBounds_toArray, List.set_cons_zero, List.set_cons_succ]
      refine takeS 5 (some 3) ?vqe5 (by kernel_rfl) (by kernel_rfl) (by kernel_rfl) (by kernel_rfl) (fun _ _ _ h => h) (by rfl) ?hyqe5 sr ?restqe5
      case hyqe5 => (intro o ho W hW; simp only [List.getElem?_toArray, List.getElem?_cons_succ, List.getElem?_cons_zero, Option.some.injEq] at ho; subst ho; (try dsimp only at hW); skip; go_simp; try rfl)
      try simp only [Act.put, List.setIfInBounds_toArray, List.set_cons_zero, List.set_cons_succ]
      refine wpAnyH_done (by kernel_rfl) ?_ _
      refine NoPanic.normal ?_
      obtain ⟨W9, hW9⟩ : ∃ W9, ((wq.setCell ⟨w.heap.size + 1, 0, none⟩ (.string ⟨#[]⟩)).setCell ⟨w.heap.size + 1, 1, none⟩ (.string ⟨#[]⟩)).setCell ⟨w.heap.size + 1, 2, none⟩ (.string ⟨#[]⟩) = W9 := ⟨_, rfl⟩
      rw [hW9] at sr
      rw [hW9]
      clear hW9 sq c0 c1 c2 f0 f1 f2
      obtain ⟨⟨c0, c1, c2⟩, -⟩ := blk3 sr.2.1
      go_wp2
      exact bodyPost_ret (v := .tuple #[.agg #[.string ⟨#[]⟩, .string ⟨#[]⟩, .string ⟨#[]⟩], .bool (s3 a b c ⟨#[]⟩ ⟨#[]⟩ ⟨#[]⟩)]) (by simp [results, Tryd.results18, go_sem, *]) rfl ⟨by rw [HR.out]; cases s3 a b c ⟨#[]⟩ ⟨#[]⟩ ⟨#[]⟩ <;> rfl, sr.2.2⟩
    | false =>
      have HR := Lib.hid (HS.out hae)
      cases op with
      | none =>
        have CQ := Lib.hid (fun W => (show Calls Tryd.prog 28 #[.string u] W fun e w' => e = .returned (.tuple #[.agg #[.string ⟨#[]⟩, .string ⟨#[]⟩, .string ⟨#[]⟩], .bool false]) ∧ Below W.heap.size W w' from CP.out W))
        go_wp2_with (first
          | (go_at_call 29; (with_reducible refine (CT.out _).mono ?_); rintro e w6 ⟨rfl, b6⟩; have B6 := B5.on b6; have R6 := r1.on b6; have z6 := below_on r2 r2.size b6)
          | (go_at_call 28; (with_reducible refine (CQ.out _).mono ?_); rintro e w7 ⟨rfl, b7⟩; have B8 := (B6.on b7).alloc (.cells #[.string ⟨#[]⟩, .string ⟨#[]⟩, .string ⟨#[]⟩] 46); have R8 := (R6.on b7).alloc (.cells #[.string ⟨#[]⟩, .string ⟨#[]⟩, .string ⟨#[]⟩] 46); have z8 := (below_on z6 z6.size b7).alloc (below_on z6 z6.size b7).size (.cells #[.string ⟨#[]⟩, .string ⟨#[]⟩, .string ⟨#[]⟩] 46); obtain ⟨⟨p0, p1, p2⟩, -⟩ := blk3 B8; obtain ⟨⟨c0, c1, c2⟩, f0, f1, f2⟩ := blk3 R8))
        have R9 := blk3_set R8 (.string ⟨#[]⟩) (.string ⟨#[]⟩) (.string ⟨#[]⟩)
        have z9 := below_sets z8 (Nat.le_succ _) (.string ⟨#[]⟩) (.string ⟨#[]⟩) (.string ⟨#[]⟩)
        clear c0 c1 c2
        obtain ⟨⟨c0, c1, c2⟩, -⟩ := blk3 R9
        exact bodyPost_ret (v := .tuple #[.agg #[.string ⟨#[]⟩, .string ⟨#[]⟩, .string ⟨#[]⟩], .bool false]) (by simp [results, Tryd.results18, go_sem, *]) rfl ⟨by rw [HR.out]; rfl, z9⟩
      | some q =>
        obtain ⟨a', ha'⟩ : ∃ a', D.sb q.l = a' := ⟨_, rfl⟩
        obtain ⟨b', hb'⟩ : ∃ b', D.sb q.s = b' := ⟨_, rfl⟩
        obtain ⟨c', hc'⟩ : ∃ c', D.sb q.r = c' := ⟨_, rfl⟩
        have CQ := Lib.hid (fun W => (show Calls Tryd.prog 28 #[.string u] W fun e w' => e = .returned (.tuple #[.agg #[.string a', .string b', .string c'], .bool true]) ∧ Below W.heap.size W w' from by rw [← ha', ← hb', ← hc']; exact CP.out W))
        have hr : D.rof x = if s3 a' b' c' a b c then some (D.frt x) else none := by rw [HR.out, ← ha', ← hb', ← hc']; rfl
        cases hz : s3 a' b' c' a b c with
        | true =>
          rw [hz] at hr
          have HQ := Lib.hid hr
          clear hr
          go_wp2_with (first
            | (go_at_call 29; (with_reducible refine (CT.out _).mono ?_); rintro e w6 ⟨rfl, b6⟩; have B6 := B5.on b6; have R6 := r1.on b6; have z6 := below_on r2 r2.size b6)
            | (go_at_call 28; (with_reducible refine (CQ.out _).mono ?_); rintro e w7 ⟨rfl, b7⟩; have B8 := (B6.on b7).alloc (.cells #[.string a', .string b', .string c'] 46); have R8 := (R6.on b7).alloc (.cells #[.string a', .string b', .string c'] 46); have z8 := (below_on z6 z6.size b7).alloc (below_on z6 z6.size b7).size (.cells #[.string a', .string b', .string c'] 46); obtain ⟨⟨p0, p1, p2⟩, -⟩ := blk3 B8; obtain ⟨⟨c0, c1, c2⟩, f0, f1, f2⟩ := blk3 R8))
          have R9 := blk3_set R8 (.string a) (.string b) (.string c)
          have z9 := below_sets z8 (Nat.le_succ _) (.string a) (.string b) (.string c)
          clear c0 c1 c2
          obtain ⟨⟨c0, c1, c2⟩, -⟩ := blk3 R9
          exact bodyPost_ret (v := .tuple #[.agg #[.string a, .string b, .string c], .bool true]) (by simp [results, Tryd.results18, go_sem, *]) rfl ⟨by rw [HQ.out]; show _ = Ending.returned (.tuple #[av (D.frt x), .bool true]); rw [HF.out _ rfl], z9⟩
        | false =>
          rw [hz] at hr
          have HQ := Lib.hid hr
          clear hr
          go_wp2_with (first
            | (go_at_call 29; (with_reducible refine (CT.out _).mono ?_); rintro e w6 ⟨rfl, b6⟩; have B6 := B5.on b6; have R6 := r1.on b6; have z6 := below_on r2 r2.size b6)
            | (go_at_call 28; (with_reducible refine (CQ.out _).mono ?_); rintro e w7 ⟨rfl, b7⟩; have B8 := (B6.on b7).alloc (.cells #[.string a', .string b', .string c'] 46); have R8 := (R6.on b7).alloc (.cells #[.string a', .string b', .string c'] 46); have z8 := (below_on z6 z6.size b7).alloc (below_on z6 z6.size b7).size (.cells #[.string a', .string b', .string c'] 46); obtain ⟨⟨p0, p1, p2⟩, -⟩ := blk3 B8; obtain ⟨⟨c0, c1, c2⟩, f0, f1, f2⟩ := blk3 R8))
          have R9 := blk3_set R8 (.string ⟨#[]⟩) (.string ⟨#[]⟩) (.string ⟨#[]⟩)
          have z9 := below_sets z8 (Nat.le_succ _) (.string ⟨#[]⟩) (.string ⟨#[]⟩) (.string ⟨#[]⟩)
          clear c0 c1 c2
          obtain ⟨⟨c0, c1, c2⟩, -⟩ := blk3 R9
          exact bodyPost_ret (v := .tuple #[.agg #[.string ⟨#[]⟩, .string ⟨#[]⟩, .string ⟨#[]⟩], .bool false]) (by simp [results, Tryd.results18, go_sem, *]) rfl ⟨by rw [HQ.out]; rfl, z9⟩
end Go.Proofs.YtpiajeonnhfanaaDoor
