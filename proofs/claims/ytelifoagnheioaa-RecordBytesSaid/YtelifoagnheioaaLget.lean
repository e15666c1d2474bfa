/-
  The reader's calls of bytes, short numbers and words; the law's get; what is left; and the reader's calls at a nil pointer.
-/
import Derived.Test.YtelifoagnheioaaRead
set_option linter.unusedVariables false
set_option maxRecDepth 100000
set_option linter.unusedSimpArgs false
namespace Go.Proofs.Ytelifoagnheioaa
open Go.RowKit
attribute [local go_sem ↓] Go.wp_at_zero Go.wp_at_succ

section
variable (q n c place e : Nat) (B : Option Addr) (l : List Nat) (w : World)
theorem r_byte (x : Nat) (h : Rd w q B n c l place e) (hx : Kept (xx e (D.fix 1 (l.drop place)) = x)) :
    Calls Try.prog 51 #[.pointer (some ⟨q, 0, none⟩)] w (Read q B n c l (.int .u8 x) (pl e place (D.fix 1 (l.drop place))) (er e (D.fix 1 (l.drop place))) w) := by
  have hb : x < 256 := by
    rw [← hx.out, xx]
    split
    · exact fix_lt (z := 1) h.lt2
    · decide
  have cF : Hid (Calls Try.prog 58 #[.pointer (some ⟨q, 0, none⟩), .int .i64 1] w (Read q B n c l (.int .u64 x) (pl e place (D.fix 1 (l.drop place))) (er e (D.fix 1 (l.drop place))) w)) := by
    have := r_fixed q n c place e B l w 1 (by omega) h
    rw [hx.out] at this
    exact this
  go_enter Try.func51, Try.ntmps51
  go_wp2_with (go_at_call 58; (with_reducible refine cF.out.mono ?_); rintro en w1 HT; have HE := HT.1; subst HE)
  go_ret
  exact ⟨by
    have : (x : Int) % 256 = x := by omega
    first | rfl | (rw [this]) | simp [this], HT.2.1, HT.2.2⟩
/-- What the law's get tells. -/
def Gets (q : Nat) (B : Option Addr) (n c : Nat) (l : List Nat) (a : D.An) (place e : Nat) (w : World) (en : Ending) (w' : World) : Prop :=
  en = .returned (.tuple #[.int .u64 (xx e a), .string (D.sb (ss e a))]) ∧ Rd w' q B n c l (pl e place a) (er e a) ∧ Only (fun i => i = q) w w'
theorem fix_s {z : Nat} {r : List Nat} : (D.fix z r).s = [] := by unfold D.fix; split <;> rfl
theorem num_s {z : Nat} {r : List Nat} : (D.num z r).s = [] := by unfold D.num; split <;> (try split) <;> rfl
theorem txt_x {z : Nat} {r : List Nat} : (D.txt z r).x = 0 := by unfold D.txt; split <;> (try split) <;> (try split) <;> rfl
theorem gets_num {q n c place e : Nat} {B : Option Addr} {l : List Nat} {w w' : World} {a : D.An} {en : Ending} {x : Nat} (hx : Kept (xx e a = x)) (hs : a.s = []) (hen : en = .returned (.tuple #[.int .u64 x, .string ⟨#[]⟩])) (h : Rd w' q B n c l (pl e place a) (er e a)) (k : Only (fun i => i = q) w w') : Gets q B n c l a place e w en w' := by
  refine ⟨?_, h, k⟩
  rw [hen, hx.out, ss]
  split
  · rw [hs]; rfl
  · rfl
theorem gets_txt {q n c place e : Nat} {B : Option Addr} {l : List Nat} {w w' : World} {a : D.An} {en : Ending} (hx : a.x = 0) (hen : en = .returned (.tuple #[.int .u64 0, .string (D.sb (ss e a))])) (h : Rd w' q B n c l (pl e place a) (er e a)) (k : Only (fun i => i = q) w w') : Gets q B n c l a place e w en w' := by
  refine ⟨?_, h, k⟩
  rw [hen, xx]
  split
  · rw [hx]; rfl
  · rfl
end
end Go.Proofs.Ytelifoagnheioaa
