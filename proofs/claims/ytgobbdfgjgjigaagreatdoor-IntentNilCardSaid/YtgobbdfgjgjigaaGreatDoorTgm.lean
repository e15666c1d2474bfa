/-
  Tags as ten plain numbers: of which parts they are, their texts, parents and chains. No program is spoken of.
-/
import Derived.Test.YtgobbdfgjgjigaaGreatDoorNam
set_option linter.unusedVariables false
set_option linter.unusedSimpArgs false
namespace Go.Proofs.YtgobbdfgjgjigaaGreatDoor
namespace D

/-- Ten bytes. -/
structure Tg where
  l : List Nat
  len : l.length = 10
  lt : ∀ b ∈ l, b < 256
theorem Tg.eq {x y : Tg} (h : x.l = y.l) : x = y := by cases x; cases y; simp at h; subst h; rfl
instance : DecidableEq Tg := fun x y => if h : x.l = y.l then .isTrue (Tg.eq h) else .isFalse fun e => h (by rw [e])
def padn (l : List Nat) (n : Nat) : List Nat := (l ++ List.replicate n 0).take n
theorem padn_len (l : List Nat) (n : Nat) : (padn l n).length = n := by simp [padn]
def tbl (p : Pt) : List Nat := padn p.l 3 ++ (padn p.s 4 ++ padn p.r 3)
theorem tbl_len (p : Pt) : (tbl p).length = 10 := by simp [tbl, padn_len]
def tb (p : Pt) : Tg := ⟨(tbl p).map (· % 256), by simp [tbl_len], by
  intro b hb
  obtain ⟨a, _, rfl⟩ := List.mem_map.1 hb
  exact Nat.mod_lt _ (by decide)⟩
def zero : Tg := tb rt
/-- Bytes ahead of the first 0. -/
def hd0 (l : List Nat) : List Nat := l.takeWhile (· != 0)
def pl (x : Tg) : List Nat := x.l.take 3
def ps (x : Tg) : List Nat := (x.l.drop 3).take 4
def pr (x : Tg) : List Nat := x.l.drop 7
def hds (x : Tg) : Pt := ⟨hd0 (pl x), hd0 (ps x), hd0 (pr x)⟩
def join : List (List Nat) → List Nat
  | [] => []
  | [x] => x
  | x :: y :: r => x ++ 45 :: join (y :: r)
/-- The parts that are not empty. -/
def some3 (p : Pt) : List (List Nat) := (if p.l = [] then [] else [p.l]) ++ ((if p.s = [] then [] else [p.s]) ++ (if p.r = [] then [] else [p.r]))
def spell (x : Tg) : List Nat := if x = zero then rootT else join (some3 (hds x))
/-- The parts of a right tag. -/
def pt (x : Tg) : Option Pt := match parse (spell x) with
  | none => none
  | some p => if tb p = x then some p else none

theorem ch_lt {l : List Nat} (h : ∀ c ∈ l, Ch c) : ∀ c ∈ l, c < 256 := fun c hc => by have := h c hc; unfold Ch at this; omega
theorem padn_eq {l : List Nat} {n : Nat} (h : l.length ≤ n) : padn l n = l ++ List.replicate (n - l.length) 0 := by
  unfold padn
  rw [List.take_append, List.take_of_length_le h, List.take_replicate, Nat.min_eq_left (by omega)]
theorem mem_padn {l : List Nat} {n c : Nat} (h : c ∈ padn l n) : c ∈ l ∨ c = 0 := by
  have := List.mem_of_mem_take h
  rcases List.mem_append.1 this with h | h
  · exact .inl h
  · exact .inr (List.eq_of_mem_replicate h)
theorem tbl_lt {p : Pt} (hl : ∀ c ∈ p.l, c < 256) (hs : ∀ c ∈ p.s, c < 256) (hr : ∀ c ∈ p.r, c < 256) : ∀ c ∈ tbl p, c < 256 := by
  intro c hc
  unfold tbl at hc
  rcases List.mem_append.1 hc with h | h
  · rcases mem_padn h with h | rfl
    · exact hl c h
    · decide
  · rcases List.mem_append.1 h with h | h
    · rcases mem_padn h with h | rfl
      · exact hs c h
      · decide
    · rcases mem_padn h with h | rfl
      · exact hr c h
      · decide
theorem map_mod {l : List Nat} (h : ∀ c ∈ l, c < 256) : l.map (· % 256) = l := by
  have : ∀ c ∈ l, (fun x => x % 256) c = id c := fun c hc => Nat.mod_eq_of_lt (h c hc)
  rw [List.map_congr_left this, List.map_id]
theorem tb_l {p : Pt} (hl : ∀ c ∈ p.l, c < 256) (hs : ∀ c ∈ p.s, c < 256) (hr : ∀ c ∈ p.r, c < 256) : (tb p).l = tbl p := map_mod (tbl_lt hl hs hr)
def right (x : Tg) : Bool := (pt x).isSome
def c1 (p : Pt) : List Pt := if p.l ≠ [] then [rt] else []
def c2 (p : Pt) : List Pt := (if p.s ≠ [] then [⟨p.l, [], p.r⟩] else []) ++ c1 p
/-- Pieces, so many at most. -/
def spn : Nat → List Nat → List (List Nat)
  | 0, t => [t]
  | k + 1, t => if cutM t then cutP t :: spn k (cutR t) else [t]
theorem spn_more : ∀ (k : Nat) (t : List Nat), t.length ≤ k → ∀ j, spn (k + j) t = spn k t
  | 0, t, h, j => by
    have : t = [] := List.eq_nil_of_length_eq_zero (by omega)
    subst this
    cases j <;> rfl
  | k + 1, t, h, j => by
    rw [show k + 1 + j = (k + j) + 1 by omega, spn, spn]
    split
    · rename_i hm
      rw [spn_more k (cutR t) (by have := cutR_lt hm; omega) j]
    · rfl
end D
end Go.Proofs.YtgobbdfgjgjigaaGreatDoor
