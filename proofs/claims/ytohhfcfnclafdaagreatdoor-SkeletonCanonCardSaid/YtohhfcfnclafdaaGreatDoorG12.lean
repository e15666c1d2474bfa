/-
  Messages in memory: the document's parts, as slices of slices; a row of parts that is being made.
  The document's Is: which texts are names.
  Plurals as plain numbers: a tag's language, languages' groups, numbers' categories, sets. No program is spoken of.
-/
import Derived.Test.YtohhfcfnclafdaaGreatDoorG11
import Derived.Test.YtohhfcfnclafdaaGreatDoorG04
import Derived.Deep.Light
import Derived.Test.YtohhfcfnclafdaaGreatDoorG00
set_option linter.unusedVariables false
set_option linter.unusedSimpArgs false
set_option maxRecDepth 100000
namespace Go.Proofs.YtohhfcfnclafdaaGreatDoor
open Go.RowKit

/-- What lies in these blocks stays. -/
structure Keeps (F : Nat → Prop) (w w' : World) : Prop where
  size : w.heap.size ≤ w'.heap.size
  same : ∀ b, F b → b < w.heap.size → w'.heap[b]? = w.heap[b]?
theorem keeps_below {F : Nat → Prop} {w w' : World} (h : Below w.heap.size w w') : Keeps F w w' := ⟨h.size, fun b _ hb => h.block b hb⟩
theorem keeps_grown {F : Nat → Prop} {w w' : World} {row : Option Nat} (h : w.grownBy w' row) (hF : ∀ b, F b → row ≠ some b) : Keeps F w w' := ⟨h.size, fun b hb hlt => h.block b hlt (fun e => hF b hb e.symm)⟩
theorem keeps_setCell {F : Nat → Prop} (w : World) (p : Addr) (u : Value) (hF : ∀ b, F b → b ≠ p.block) : Keeps F w (w.setCell p u) := ⟨by simp, fun b hb _ => Below.heap_setCell w p u b (hF b hb)⟩
/-- A row in blocks that stay. -/
structure RF (sz : Nat) (F : Nat → Prop) (w : World) (A : Option Addr) (n : Nat) (xs : List Value) : Prop where
  row : Rw sz w A n xs
  on_ : 0 < n → ∀ ad, A = some ad → F ad.block
  pl : 0 < n → ∀ ad, A = some ad → ∃ cs T, w.heap[ad.block]? = some (.cells cs T (0, 0))
section
variable {sz n : Nat} {F F' : Nat → Prop} {w w' : World} {A : Option Addr} {xs : List Value}
theorem RF.keep (h : RF sz F w A n xs) (k : Keeps F w w') : RF sz F w' A n xs := by
  refine ⟨⟨h.row.len, fun hn => ?_⟩, h.on_, fun hn ad e => ?_⟩
  rotate_left
  · obtain ⟨ad', e', hl, _⟩ := h.row.to hn
    rw [e] at e'
    injection e' with e'
    subst e'
    rw [k.same _ (h.on_ hn ad e) hl]
    exact h.pl hn ad e
  obtain ⟨ad, e, hl, hc⟩ := h.row.to hn
  exact ⟨ad, e, Nat.lt_of_lt_of_le hl k.size, fun j u hu => (World.cell?_of_block (w := w) (by rw [block_of_add]; exact k.same _ (h.on_ hn ad e) hl)).trans (hc j u hu)⟩
theorem RF.weaken (h : RF sz F w A n xs) (k : ∀ b, b < w.heap.size → F b → F' b) : RF sz F' w A n xs := by
  refine ⟨h.row, fun hn ad e => ?_, h.pl⟩
  obtain ⟨ad', e', hl, _⟩ := h.row.to hn
  rw [e] at e'
  injection e' with e'
  subst e'
  exact k _ hl (h.on_ hn ad e)
theorem RF.nil (sz : Nat) (F : Nat → Prop) (w : World) (A : Option Addr) : RF sz F w A 0 [] := ⟨Rw.nil sz w A, fun h => absurd h (by omega), fun h => absurd h (by omega)⟩
/-- A row of the call's own lies in plain cells. -/
theorem Ow.rf {T : TypeId} {base c : Nat} (h : Ow T sz base w A n c xs) (hF : ∀ g, (Value.slice A n c).ownBlock = some g → F g) : RF sz F w A n xs := by
  refine ⟨h.to_row, fun hn ad e => hF _ (by rw [e]; rfl), fun hn ad e => ?_⟩
  rcases h.row.2 with ⟨_, h0⟩ | ⟨g, cap, cur, e1, _, hh, _⟩
  · omega
  · injection e1 with e1
    rw [e] at e1
    injection e1 with e1
    subst e1
    exact ⟨_, _, hh⟩
end
/-- The cells of parts whose words and cases are these values. -/
def pcl : List (D.Nd × Value × Value) → List Value
  | [] => []
  | (x, a, b) :: r => .int .i64 (D.Nd.k x : Nat) :: .string (D.sb (D.Nd.t x)) :: .string (D.sb (D.Nd.n x)) :: a :: b :: pcl r
theorem cls_app : ∀ (l k : List (D.Nd × Value × Value)), pcl (l ++ k) = pcl l ++ pcl k
  | [], k => rfl
  | (x, a, b) :: l, k => by simp [pcl, cls_app l k]
theorem cls_len : ∀ l : List (D.Nd × Value × Value), (pcl l).length = l.length * 5
  | [] => rfl
  | (x, a, b) :: l => by simp [pcl, cls_len l]; omega
/-- Bytes of a part's texts. -/
def D.Bt (x : D.Nd) : Prop := (∀ c ∈ x.t, c < 256) ∧ (∀ c ∈ x.n, c < 256) ∧ D.B8 x.ws
/-- What hangs below a part: its words, its cases' messages. -/
def Bel (K : Value → List D.Nd → Prop) (F : Nat → Prop) (w : World) (x : D.Nd) (a b : Value) : Prop :=
  D.Bt x ∧ (∃ A n c, a = .slice A n c ∧ n ≤ c ∧ RF 1 F w A n (strs x.ws)) ∧
  ∃ (A : Option Addr) (n c : Nat) (us : List Value), b = .slice A n c ∧ n ≤ c ∧ RF 1 F w A n us ∧ us.length = x.ks.length ∧ (∀ u ∈ us, u.oneCell' = true) ∧ ∀ (j : Nat) (u : Value) (q : List D.Nd), us[j]? = some u → x.ks[j]? = some q → K u q
/-- A slice of parts, in blocks that stay; so many choices deep. -/
def Ms (F : Nat → Prop) (w : World) : Nat → Value → List D.Nd → Prop
  | 0, v, l => ∃ (A : Option Addr) (n c : Nat) (vs : List (D.Nd × Value × Value)), v = .slice A n c ∧ n ≤ c ∧ RF 5 F w A n (pcl vs) ∧ vs.map (·.1) = l ∧ ∀ (i : Nat) (x : D.Nd) (a b : Value), vs[i]? = some (x, a, b) → a.oneCell' = true ∧ b.oneCell' = true ∧ Bel (fun _ _ => False) F w x a b
  | r + 1, v, l => ∃ (A : Option Addr) (n c : Nat) (vs : List (D.Nd × Value × Value)), v = .slice A n c ∧ n ≤ c ∧ RF 5 F w A n (pcl vs) ∧ vs.map (·.1) = l ∧ ∀ (i : Nat) (x : D.Nd) (a b : Value), vs[i]? = some (x, a, b) → a.oneCell' = true ∧ b.oneCell' = true ∧ Bel (Ms F w r) F w x a b
/-- What may stand in a case, so many choices deep. -/
def Kd (F : Nat → Prop) (w : World) : Nat → Value → List D.Nd → Prop
  | 0 => fun _ _ => False
  | r + 1 => Ms F w r
theorem Ms_eq (F : Nat → Prop) (w : World) (r : Nat) (v : Value) (l : List D.Nd) : Ms F w r v l ↔ ∃ (A : Option Addr) (n c : Nat) (vs : List (D.Nd × Value × Value)), v = .slice A n c ∧ n ≤ c ∧ RF 5 F w A n (pcl vs) ∧ vs.map (·.1) = l ∧ ∀ (i : Nat) (x : D.Nd) (a b : Value), vs[i]? = some (x, a, b) → a.oneCell' = true ∧ b.oneCell' = true ∧ Bel (Kd F w r) F w x a b := by
  cases r <;> exact Iff.rfl
section
variable {F F' : Nat → Prop} {w w' : World}
theorem Bel.to {K K' : Value → List D.Nd → Prop} {x : D.Nd} {a b : Value} (h : Bel K F w x a b) (h1 : ∀ sz A n xs, RF sz F w A n xs → RF sz F' w' A n xs) (h2 : ∀ u q, K u q → K' u q) : Bel K' F' w' x a b := by
  obtain ⟨hb, ⟨A, n, c, e, hc, hr⟩, A', n', c', us, e', hc', hr', hl, h1c, hk⟩ := h
  exact ⟨hb, ⟨A, n, c, e, hc, h1 _ _ _ _ hr⟩, A', n', c', us, e', hc', h1 _ _ _ _ hr', hl, h1c, fun j u q hu hq => h2 u q (hk j u q hu hq)⟩
theorem Ms.to (h1 : ∀ sz A n xs, RF sz F w A n xs → RF sz F' w' A n xs) : ∀ (r : Nat) {v : Value} {l : List D.Nd}, Ms F w r v l → Ms F' w' r v l
  | 0, v, l, h => by
    obtain ⟨A, n, c, vs, e, hc, hr, hl, hb⟩ := h
    exact ⟨A, n, c, vs, e, hc, h1 _ _ _ _ hr, hl, fun i x a b hx => ⟨(hb i x a b hx).1, (hb i x a b hx).2.1, (hb i x a b hx).2.2.to h1 (fun _ _ h => h)⟩⟩
  | r + 1, v, l, h => by
    obtain ⟨A, n, c, vs, e, hc, hr, hl, hb⟩ := h
    exact ⟨A, n, c, vs, e, hc, h1 _ _ _ _ hr, hl, fun i x a b hx => ⟨(hb i x a b hx).1, (hb i x a b hx).2.1, (hb i x a b hx).2.2.to h1 (fun _ _ h => Ms.to h1 r h)⟩⟩
theorem Ms.keep {r : Nat} {v : Value} {l : List D.Nd} (h : Ms F w r v l) (k : Keeps F w w') : Ms F w' r v l := Ms.to (fun _ _ _ _ h => h.keep k) r h
theorem Ms.weaken {r : Nat} {v : Value} {l : List D.Nd} (h : Ms F w r v l) (k : ∀ b, b < w.heap.size → F b → F' b) : Ms F' w r v l := Ms.to (fun _ _ _ _ h => h.weaken k) r h
theorem Kd.to (h1 : ∀ sz A n xs, RF sz F w A n xs → RF sz F' w' A n xs) (r : Nat) {v : Value} {l : List D.Nd} (h : Kd F w r v l) : Kd F' w' r v l := by
  cases r with
  | zero => exact h
  | succ r => exact Ms.to h1 r h
theorem Bel.keep {r : Nat} {x : D.Nd} {a b : Value} (h : Bel (Kd F w r) F w x a b) (k : Keeps F w w') : Bel (Kd F w' r) F w' x a b := h.to (fun _ _ _ _ h => h.keep k) (fun _ _ h => Kd.to (fun _ _ _ _ h => h.keep k) r h)
theorem Bel.weaken {r : Nat} {x : D.Nd} {a b : Value} (h : Bel (Kd F w r) F w x a b) (k : ∀ b, b < w.heap.size → F b → F' b) : Bel (Kd F' w r) F' w x a b := h.to (fun _ _ _ _ h => h.weaken k) (fun _ _ h => Kd.to (fun _ _ _ _ h => h.weaken k) r h)
end
/-- A slice without parts. -/
theorem Ms.nil (F : Nat → Prop) (w : World) (r : Nat) (A : Option Addr) (c : Nat) : Ms F w r (.slice A 0 c) [] := (Ms_eq F w r _ _).2 ⟨A, 0, c, [], rfl, Nat.zero_le _, RF.nil _ _ _ _, rfl, fun i x a b h => by simp at h⟩
/-- The blocks of the call's own but that of a row. -/
def Fo (base : Nat) (g : Option Nat) (b : Nat) : Prop := base ≤ b ∧ g ≠ some b
/-- A row of parts that is being made. -/
structure Ac (T : TypeId) (r base : Nat) (w : World) (A : Option Addr) (n c : Nat) (l : List D.Nd) : Prop where
  out : ∃ vs : List (D.Nd × Value × Value), Ow T 5 base w A n c (pcl vs) ∧ vs.map (·.1) = l ∧ ∀ (i : Nat) (x : D.Nd) (a b : Value), vs[i]? = some (x, a, b) → a.oneCell' = true ∧ b.oneCell' = true ∧ Bel (Kd (Fo base (Value.slice A n c).ownBlock) w r) (Fo base (Value.slice A n c).ownBlock) w x a b
section
variable {T : TypeId} {r base n c : Nat} {w w' : World} {A : Option Addr} {l : List D.Nd}
theorem Ac.nil (T : TypeId) (r : Nat) (h : base ≤ w.heap.size) : Ac T r base w none 0 0 [] := ⟨[], Ow.nil T 5 h, rfl, fun i x a b h => by simp at h⟩
theorem Ac.len (h : Ac T r base w A n c l) : l.length = n := by
  obtain ⟨vs, ho, hl, _⟩ := h.out
  have := ho.len
  rw [cls_len] at this
  rw [← hl, List.length_map]; omega
theorem Ac.on (h : Ac T r base w A n c l) (hb : Below w.heap.size w w') : Ac T r base w' A n c l := by
  obtain ⟨vs, ho, hl, hx⟩ := h.out
  exact ⟨vs, ho.on hb, hl, fun i x a b hi => ⟨(hx i x a b hi).1, (hx i x a b hi).2.1, (hx i x a b hi).2.2.keep (keeps_below hb)⟩⟩
/-- It is made: its row stays as it is. -/
theorem Ac.done (h : Ac T r base w A n c l) : Ms (fun b => base ≤ b) w r (.slice A n c) l := by
  obtain ⟨vs, ho, hl, hx⟩ := h.out
  refine (Ms_eq _ w r _ _).2 ⟨A, n, c, vs, rfl, ho.cap.1, ho.rf fun g hg => ?_, hl, fun i x a b hi => ⟨(hx i x a b hi).1, (hx i x a b hi).2.1, (hx i x a b hi).2.2.weaken fun b _ hb => hb.1⟩⟩
  exact ho.block_le _ hg
/-- One part more: what append leaves. -/
theorem Ac.snoc {A' : Option Addr} {c' : Nat} {x : D.Nd} {a b : Value} {vs : List (D.Nd × Value × Value)} (hl : vs.map (·.1) = l)
    (hv : ∀ (i : Nat) (x : D.Nd) (a b : Value), vs[i]? = some (x, a, b) → a.oneCell' = true ∧ b.oneCell' = true ∧ Bel (Kd (Fo base (Value.slice A n c).ownBlock) w r) (Fo base (Value.slice A n c).ownBlock) w x a b)
    (ha : a.oneCell' = true) (hb : b.oneCell' = true)
    (hx : Bel (Kd (Fo base (Value.slice A n c).ownBlock) w r) (Fo base (Value.slice A n c).ownBlock) w x a b)
    (hg : w.grownBy w' (Value.slice A n c).ownBlock) (hor : (Value.slice A' (n + 1) c').ownBlock = (Value.slice A n c).ownBlock ∨ (Value.slice A' (n + 1) c').ownBlock = some w.heap.size)
    (hon : Ow T 5 base w' A' (n + 1) c' (pcl vs ++ pcl [(x, a, b)])) : Ac T r base w' A' (n + 1) c' (l ++ [x]) := by
  rw [← cls_app] at hon
  have move : ∀ {x a b}, Bel (Kd (Fo base (Value.slice A n c).ownBlock) w r) (Fo base (Value.slice A n c).ownBlock) w x a b → Bel (Kd (Fo base (Value.slice A' (n + 1) c').ownBlock) w' r) (Fo base (Value.slice A' (n + 1) c').ownBlock) w' x a b := by
    intro x a b hB
    have h1 := hB.weaken (F' := fun q => base ≤ q ∧ (Value.slice A n c).ownBlock ≠ some q ∧ (Value.slice A' (n + 1) c').ownBlock ≠ some q) fun q hq hF => ⟨hF.1, hF.2, by
      rcases hor with e | e
      · rw [e]; exact hF.2
      · rw [e]; intro h; injection h with h; omega⟩
    have h2 := h1.keep (keeps_grown hg fun q hq => hq.2.1)
    exact h2.weaken fun q _ hF => ⟨hF.1, hF.2.2⟩
  refine ⟨vs ++ [(x, a, b)], hon, by simp [hl], fun i y c' d hi => ?_⟩
  rw [List.getElem?_append] at hi
  split at hi
  · exact ⟨(hv i y c' d hi).1, (hv i y c' d hi).2.1, move (hv i y c' d hi).2.2⟩
  · have hi0 : i - vs.length = 0 := by
      have := (List.getElem?_eq_some_iff.1 hi).1
      simp at this; omega
    rw [hi0] at hi
    simp at hi
    obtain ⟨rfl, rfl, rfl⟩ := hi
    exact ⟨ha, hb, move hx⟩
end
end Go.Proofs.YtohhfcfnclafdaaGreatDoor
set_option linter.unusedVariables false
set_option linter.unusedSimpArgs false
set_option maxRecDepth 100000
namespace Go.Proofs.YtohhfcfnclafdaaGreatDoor.Nm
open Go.RowKit
attribute [local go_sem ↓] Go.wp_at_zero Go.wp_at_succ
/-- Bytes so far that may stand in a name. -/
structure Fyne (t : List Nat) (k : Nat) : Prop where
  out : ∀ i b, i < k → t[i]? = some b → D.mayB b = true
/-- Each byte so far stands rightly. -/
structure Good (t : List Nat) (k : Nat) : Prop where
  fine : Fyne t k
  first : 0 < k → D.letB (t.getD 0 0) = true
end Go.Proofs.YtohhfcfnclafdaaGreatDoor.Nm
set_option linter.unusedVariables false
set_option linter.unusedSimpArgs false
namespace Go.Proofs.YtohhfcfnclafdaaGreatDoor
namespace D
/-- A tag's language, as a text; root's, where the tag is not right. -/
def lg (x : Tg) : List Nat := match pt x with
  | none => rootT
  | some p => txt ⟨p.l, [], []⟩
/-- The languages that have rules of their own, and their groups. -/
def langs : List (List Nat × Nat) := [([106, 97], 1), ([107, 111], 1), ([122, 104], 1), ([118, 105], 1), ([116, 104], 1), ([105, 100], 1), ([102, 114], 2), ([112, 116], 2), ([114, 117], 3), ([117, 107], 3), ([115, 114], 3), ([112, 108], 4), ([99, 115], 5), ([115, 107], 5), ([97, 114], 6), ([108, 116], 7)]
def grp (l : List Nat) : Nat := ((langs.find? (fun q => q.1 == l)).map (·.2)).getD 0
/-- The group of any tag. -/
def gr (x : Tg) : Nat := grp (lg x)
theorem langs_pos : ∀ q ∈ langs, 1 ≤ q.2 ∧ q.2 ≤ 7 := by decide
theorem grp_le (l : List Nat) : grp l ≤ 7 := by
  unfold grp
  cases h : langs.find? (fun q => q.1 == l) with
  | none => decide
  | some q => exact (langs_pos q (List.mem_of_find?_eq_some h)).2
theorem gr_le (x : Tg) : gr x ≤ 7 := grp_le _
theorem grp_none {l : List Nat} (h : ∀ q ∈ langs, q.1 ≠ l) : grp l = 0 := by
  unfold grp
  rw [List.find?_eq_none.2 (fun q hq => by simpa using h q hq)]
  rfl
/-- The tag of a tag's language alone. -/
def lt3 (x : Tg) : Tg := ⟨pl x ++ [0, 0, 0, 0, 0, 0, 0], by have := x.len; simp [pl]; omega, by
  intro b hb
  rcases List.mem_append.1 hb with h | h
  · exact x.lt b (List.mem_of_mem_take h)
  · have : b = 0 := by simpa using h
    omega⟩
theorem can_l {p : Pt} (h : Can p) : Can ⟨p.l, [], []⟩ := by
  rcases h with rfl | ⟨hl, _⟩
  · exact .inl rfl
  · exact .inr ⟨hl, .inl rfl, .inl rfl⟩
theorem lt3_some {x : Tg} {p : Pt} (h : pt x = some p) : lt3 x = tb ⟨p.l, [], []⟩ := by
  obtain ⟨hc, rfl⟩ := pt_some h
  refine Tg.eq ?_
  rw [can_tb (can_l hc)]
  show pl (tb p) ++ _ = _
  rw [(parts_tb hc).1]
  rfl
/-- A number's category in a group. -/
def few (n : Nat) : Bool := decide (2 ≤ n % 10 ∧ n % 10 ≤ 4 ∧ ¬ (12 ≤ n % 100 ∧ n % 100 ≤ 14))
def teen (n : Nat) : Bool := decide (11 ≤ n % 100 ∧ n % 100 ≤ 19)
def pof (g n : Nat) : Nat :=
  if g = 1 then 5
  else if g = 2 then (if n = 0 ∨ n = 1 then 1 else 5)
  else if g = 3 then (if n % 10 = 1 ∧ n % 100 ≠ 11 then 1 else if few n then 3 else 4)
  else if g = 4 then (if n = 1 then 1 else if few n then 3 else 4)
  else if g = 5 then (if n = 1 then 1 else if 2 ≤ n ∧ n ≤ 4 then 3 else 5)
  else if g = 6 then (if n ≤ 2 then n else if 3 ≤ n % 100 ∧ n % 100 ≤ 10 then 3 else if 11 ≤ n % 100 then 4 else 5)
  else if g = 7 then (if n % 10 = 1 ∧ teen n = false then 1 else if 2 ≤ n % 10 ∧ teen n = false then 3 else 5)
  else (if n = 1 then 1 else 5)
theorem pof_le (g n : Nat) : pof g n ≤ 5 := by
  unfold pof
  repeat' split
  all_goals omega
/-- Tests of numbers: those from one to another; by the rest; both, and not; each. -/
inductive Ts where
  | am (lo hi : Nat)
  | re (d lo hi : Nat)
  | bu (d lo hi d' lo' hi' : Nat)
  | al
def Ts.ev (n : Nat) : Ts → Bool
  | .am lo hi => decide (lo ≤ n ∧ n ≤ hi)
  | .re d lo hi => decide (lo ≤ n % d ∧ n % d ≤ hi)
  | .bu d lo hi d' lo' hi' => decide (lo ≤ n % d ∧ n % d ≤ hi) && !decide (lo' ≤ n % d' ∧ n % d' ≤ hi')
  | .al => true
/-- The rules of a group. -/
def rls (g : Nat) : List (Nat × Ts) :=
  if g = 1 then []
  else if g = 2 then [(1, .am 0 1)]
  else if g = 3 then [(1, .bu 10 1 1 100 11 11), (3, .bu 10 2 4 100 12 14), (4, .al)]
  else if g = 4 then [(1, .am 1 1), (3, .bu 10 2 4 100 12 14), (4, .al)]
  else if g = 5 then [(1, .am 1 1), (3, .am 2 4)]
  else if g = 6 then [(0, .am 0 0), (1, .am 1 1), (2, .am 2 2), (3, .re 100 3 10), (4, .re 100 11 99)]
  else if g = 7 then [(1, .bu 10 1 1 100 11 19), (3, .bu 10 2 9 100 11 19)]
  else [(1, .am 1 1)]
/-- The category of the first rule that takes a number. -/
def fst (n : Nat) : List (Nat × Ts) → Nat
  | [] => 5
  | (c, t) :: r => if t.ev n then c else fst n r
theorem fst_pof {g : Nat} (hg : g ≤ 7) (n : Nat) : fst n (rls g) = pof g n := by
  obtain rfl | rfl | rfl | rfl | rfl | rfl | rfl | rfl : g = 0 ∨ g = 1 ∨ g = 2 ∨ g = 3 ∨ g = 4 ∨ g = 5 ∨ g = 6 ∨ g = 7 := by omega
  all_goals simp [rls, fst, pof, Ts.ev, few, teen]
  all_goals repeat' split
  all_goals first | rfl | omega
theorem rls_len (g : Nat) : (rls g).length ≤ 5 := by
  unfold rls
  repeat' split
  all_goals decide
/-- The words. -/
def wrds : List (List Nat) := [[122, 101, 114, 111], [111, 110, 101], [116, 119, 111], [102, 101, 119], [109, 97, 110, 121], [111, 116, 104, 101, 114]]
end D
end Go.Proofs.YtohhfcfnclafdaaGreatDoor
