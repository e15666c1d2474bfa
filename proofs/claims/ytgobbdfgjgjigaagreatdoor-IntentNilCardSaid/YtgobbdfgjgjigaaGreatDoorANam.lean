/-
  Names as lists of plain numbers: which texts are names, which names are right, which comes first, sorted lists of them. No program is spoken of.
-/
import Derived.Test.YtgobbdfgjgjigaaGreatDoorNam
set_option linter.unusedVariables false
set_option linter.unusedSimpArgs false
set_option maxRecDepth 100000
namespace Go.Proofs.YtgobbdfgjgjigaaGreatDoor.Nm
namespace D
open Go.Proofs.YtgobbdfgjgjigaaGreatDoor.D (ns sb ns_len ns_lt sb_ns ns_sb sb_len ns_inj)

def letB (c : Nat) : Bool := decide (97 ≤ c) && decide (c ≤ 122)
def mayB (c : Nat) : Bool := letB c || (decide (48 ≤ c) && decide (c ≤ 57)) || decide (c = 45) || decide (c = 95) || decide (c = 46)
/-- Is it a name's text? -/
def isB (t : List Nat) : Bool := decide (1 ≤ t.length) && decide (t.length ≤ 12) && letB (t.getD 0 0) && t.all mayB
theorem isB_iff {t : List Nat} : isB t = true ↔ 1 ≤ t.length ∧ t.length ≤ 12 ∧ letB (t.getD 0 0) = true ∧ ∀ c ∈ t, mayB c = true := by
  simp [isB, and_assoc]

/-- A name: 12 bytes. -/
structure Nm where
  l : List Nat
  len : l.length = 12
  lt : ∀ b ∈ l, b < 256
theorem Nm.eq {x y : Nm} (h : x.l = y.l) : x = y := by
  cases x; cases y; simp only at h; subst h; rfl
theorem Nm.eq_iff {x y : Nm} : x = y ↔ x.l = y.l := ⟨fun h => by rw [h], Nm.eq⟩
instance : DecidableEq Nm := fun x y => decidable_of_iff (x.l = y.l) Nm.eq_iff.symm
def zero : Nm := ⟨List.replicate 12 0, by simp, by intro b hb; have := (List.mem_replicate.1 hb).2; omega⟩
instance : Inhabited Nm := ⟨zero⟩

/-- The first k bytes of a text, and 0 behind them. -/
def padl (t : List Nat) (k : Nat) : List Nat := (t.take k ++ List.replicate 12 0).take 12
theorem padl_len (t : List Nat) (k : Nat) : (padl t k).length = 12 := by simp [padl]
theorem padl_lt {t : List Nat} (h : ∀ b ∈ t, b < 256) (k : Nat) : ∀ b ∈ padl t k, b < 256 := by
  intro b hb
  rcases List.mem_append.1 (List.mem_of_mem_take hb) with hb | hb
  · exact h b (List.mem_of_mem_take hb)
  · have := (List.mem_replicate.1 hb).2; omega
theorem padl_zero (t : List Nat) : padl t 0 = List.replicate 12 0 := by simp [padl]
theorem padl_next {t : List Nat} {k b : Nat} (hb : t[k]? = some b) (hk : k < 12) : (padl t k).set k b = padl t (k + 1) := by
  obtain ⟨hl, he⟩ := List.getElem?_eq_some_iff.1 hb
  apply List.ext_getElem?
  intro i
  rw [List.getElem?_set, padl_len]
  by_cases hik : k = i
  · subst hik
    rw [if_pos rfl, if_pos hk]
    simp only [padl]
    rw [List.getElem?_take_of_lt hk, List.getElem?_append_left (by simp; omega), List.getElem?_take_of_lt (by omega), hb]
  · rw [if_neg hik]
    simp only [padl]
    by_cases hi : i < 12
    · rw [List.getElem?_take_of_lt hi, List.getElem?_take_of_lt hi]
      by_cases h2 : i < k
      · rw [List.getElem?_append_left (by simp; omega), List.getElem?_append_left (by simp; omega), List.getElem?_take_of_lt h2, List.getElem?_take_of_lt (by omega)]
      · rw [List.getElem?_append_right (by simp; omega), List.getElem?_append_right (by simp; omega)]
        simp only [List.length_take, List.getElem?_replicate]
        rw [if_pos (by omega), if_pos (by omega)]
    · rw [List.getElem?_take_eq_none (by omega), List.getElem?_take_eq_none (by omega)]
theorem padl_all {t : List Nat} (k : Nat) (h : t.length ≤ k) : padl t k = padl t t.length := by simp [padl, List.take_of_length_le h]
def padN (t : List Nat) (h : ∀ b ∈ t, b < 256) : Nm := ⟨padl t 12, padl_len t 12, padl_lt h 12⟩
def pad (s : ByteArray) : Nm := padN (ns s) (ns_lt s)
/-- The bytes ahead of the first byte 0. -/
def hd (l : List Nat) : List Nat := l.takeWhile (fun b => decide (b ≠ 0))
theorem hd_le (l : List Nat) : (hd l).length ≤ l.length := (List.takeWhile_sublist _).length_le
theorem hd_mem {l : List Nat} {b : Nat} (h : b ∈ hd l) : b ∈ l := (List.takeWhile_sublist _).subset h
def hdp (x : Nm) : Nm := padN (hd x.l) fun b hb => x.lt b (hd_mem hb)
def right (x : Nm) : Bool := isB (hd x.l) && decide (hdp x = x)
/-- How often. -/
def cnt (l : List Nm) (n : Nm) : Nat := l.countP (fun x => decide (x = n))
end D
end Go.Proofs.YtgobbdfgjgjigaaGreatDoor.Nm
