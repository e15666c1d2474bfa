/-
  The reader's calls of bytes, short numbers and words; the law's get; what is left; and the reader's calls at a nil pointer.
-/
import Derived.Test.YtnihkpcfnkimoaaRead
set_option linter.unusedVariables false
set_option linter.unusedSimpArgs false
namespace Go.Proofs.Ytnihkpcfnkimoaa
open Go.RowKit
attribute [local go_sem ↓] Go.wp_at_zero Go.wp_at_succ

section
variable (q n c place e : Nat) (B : Option Addr) (l : List Nat) (w : World)
theorem r_byte (x : Nat) (h : Rd w q B n c l place e) (hx : Kept (xx e (D.fix 1 (l.drop place)) = x)) :
    Calls Try.prog 28 #[.pointer (some ⟨q, 0, none⟩)] w (Read q B n c l (.int .u8 x) (pl e place (D.fix 1 (l.drop place))) (er e (D.fix 1 (l.drop place))) w) := by
  have hb : x < 256 := by
    rw [← hx.out, xx]
    split
    · exact fix_lt (z := 1) h.lt2
    · decide
  have cF : Hid (Calls Try.prog 48 #[.pointer (some ⟨q, 0, none⟩), .int .i64 1] w (Read q B n c l (.int .u64 x) (pl e place (D.fix 1 (l.drop place))) (er e (D.fix 1 (l.drop place))) w)) := by
    have := r_fixed q n c place e B l w 1 (by omega) h
    rw [hx.out] at this
    exact this
  go_enter Try.func28, Try.ntmps28
  go_wp2_with (go_at_call 48; (with_reducible refine cF.out.mono ?_); rintro en w1 HT; have HE := HT.1; subst HE)
  go_ret
  exact ⟨by
    have : (x : Int) % 256 = x := by omega
    first | rfl | (rw [this]) | simp [this], HT.2.1, HT.2.2⟩
theorem r_short (x : Nat) (h : Rd w q B n c l place e) (hx : Kept (xx e (D.fix 2 (l.drop place)) = x)) :
    Calls Try.prog 29 #[.pointer (some ⟨q, 0, none⟩)] w (Read q B n c l (.int .i64 x) (pl e place (D.fix 2 (l.drop place))) (er e (D.fix 2 (l.drop place))) w) := by
  have hb : x < 65536 := by
    rw [← hx.out, xx]
    split
    · exact fix_lt (z := 2) h.lt2
    · decide
  have cF : Hid (Calls Try.prog 48 #[.pointer (some ⟨q, 0, none⟩), .int .i64 2] w (Read q B n c l (.int .u64 x) (pl e place (D.fix 2 (l.drop place))) (er e (D.fix 2 (l.drop place))) w)) := by
    have := r_fixed q n c place e B l w 2 (by omega) h
    rw [hx.out] at this
    exact this
  go_enter Try.func29, Try.ntmps29
  go_wp2_with (go_at_call 48; (with_reducible refine cF.out.mono ?_); rintro en w1 HT; have HE := HT.1; subst HE)
  go_ret
  exact ⟨rfl, HT.2.1, HT.2.2⟩
theorem r_word (x : Nat) (h : Rd w q B n c l place e) (hx : Kept (xx e (D.fix 8 (l.drop place)) = x)) :
    Calls Try.prog 30 #[.pointer (some ⟨q, 0, none⟩)] w (Read q B n c l (.int .u64 x) (pl e place (D.fix 8 (l.drop place))) (er e (D.fix 8 (l.drop place))) w) := by
  have cF : Hid (Calls Try.prog 48 #[.pointer (some ⟨q, 0, none⟩), .int .i64 8] w (Read q B n c l (.int .u64 x) (pl e place (D.fix 8 (l.drop place))) (er e (D.fix 8 (l.drop place))) w)) := by
    have := r_fixed q n c place e B l w 8 (by omega) h
    rw [hx.out] at this
    exact this
  go_enter Try.func30, Try.ntmps30
  go_wp2_with (go_at_call 48; (with_reducible refine cF.out.mono ?_); rintro en w1 HT; have HE := HT.1; subst HE)
  go_ret
  exact ⟨rfl, HT.2.1, HT.2.2⟩

/-- What the law's get tells. -/
def Gets (q : Nat) (B : Option Addr) (n c : Nat) (l : List Nat) (a : D.An) (place e : Nat) (w : World) (en : Ending) (w' : World) : Prop :=
  en = .returned (.tuple #[.int .u64 (xx e a), .string (D.sb (ss e a))]) ∧ Rd w' q B n c l (pl e place a) (er e a) ∧ Only (fun i => i = q) w w'
theorem fix_s {z : Nat} {r : List Nat} : (D.fix z r).s = [] := by unfold D.fix; split <;> rfl
theorem num_s {z : Nat} {r : List Nat} : (D.num z r).s = [] := by unfold D.num; split <;> (try split) <;> rfl
theorem txt_x {z : Nat} {r : List Nat} : (D.txt z r).x = 0 := by unfold D.txt; split <;> (try split) <;> (try split) <;> rfl
theorem gets_num {q n c place e : Nat} {B : Option Addr} {l : List Nat} {w w' : World} {a : D.An} {en : Ending} {x : Nat} (hx : Kept (xx e a = x)) (hs : a.s = []) (hen : en = .returned (.tuple #[.int .u64 x, .string ⟨#[]⟩])) (h : Rd w' q B n c l (pl e place a) (er e a)) (k : Only (fun i => i = q) w w') : Gets q B n c l a place e w en w' := by
  refine ⟨?_, h, k⟩
  rw [hen, hx.out, ss]
  split
  · rw [hs]; rfl
  · rfl
theorem gets_txt {q n c place e : Nat} {B : Option Addr} {l : List Nat} {w w' : World} {a : D.An} {en : Ending} (hx : a.x = 0) (hen : en = .returned (.tuple #[.int .u64 0, .string (D.sb (ss e a))])) (h : Rd w' q B n c l (pl e place a) (er e a)) (k : Only (fun i => i = q) w w') : Gets q B n c l a place e w en w' := by
  refine ⟨?_, h, k⟩
  rw [hen, xx]
  split
  · rw [hx]; rfl
  · rfl
set_option maxHeartbeats 400000 in
theorem law_get (k : Int) (mo m : Nat) (hmo : mo < 18446744073709551616) (hk0 : 0 ≤ k) (hk4 : k ≤ 4) (hm : k ≠ 4 → m = mo) (hm4 : k = 4 → m = mo % 1000000) (h : Rd w q B n c l place e) :
    Calls Try.prog 17 #[.pointer (some ⟨q, 0, none⟩), .int .i64 k, .int .u64 mo] w (Gets q B n c l (D.rd k m (l.drop place)) place e w) := by
  have hcs : k = 0 ∨ k = 1 ∨ k = 2 ∨ k = 3 ∨ k = 4 := by omega
  rcases hcs with rfl | rfl | rfl | rfl | rfl
  · rw [D.rd0]
    obtain ⟨x, hx⟩ : ∃ x, xx e (D.fix 1 (l.drop place)) = x := ⟨_, rfl⟩
    have hb : x < 256 := by
      rw [← hx, xx]
      split
      · exact fix_lt (z := 1) h.lt2
      · decide
    have HX : Kept (xx e (D.fix 1 (l.drop place)) = x) := ⟨hx⟩
    have cR := Lib.hid (r_byte q n c place e B l w x h HX)
    clear hx hm hm4
    go_enter Try.func17, Try.ntmps17
    go_wp2_with (go_at_call 28; (with_reducible refine cR.out.mono ?_); rintro en w1 HT; have HE := HT.1; subst HE)
    go_ret2
    exact gets_num HX fix_s rfl HT.2.1 HT.2.2
  · rw [D.rd1]
    obtain ⟨x, hx⟩ : ∃ x, xx e (D.fix 2 (l.drop place)) = x := ⟨_, rfl⟩
    have hb : x < 65536 := by
      rw [← hx, xx]
      split
      · exact fix_lt (z := 2) h.lt2
      · decide
    have HX : Kept (xx e (D.fix 2 (l.drop place)) = x) := ⟨hx⟩
    have cR := Lib.hid (r_short q n c place e B l w x h HX)
    clear hx hm hm4
    go_enter Try.func17, Try.ntmps17
    go_wp2_with (go_at_call 29; (with_reducible refine cR.out.mono ?_); rintro en w1 HT; have HE := HT.1; subst HE)
    go_ret2
    exact gets_num HX fix_s rfl HT.2.1 HT.2.2
  · rw [D.rd2]
    obtain ⟨x, hx⟩ : ∃ x, xx e (D.fix 8 (l.drop place)) = x := ⟨_, rfl⟩
    have HX : Kept (xx e (D.fix 8 (l.drop place)) = x) := ⟨hx⟩
    have cR := Lib.hid (r_word q n c place e B l w x h HX)
    clear hx hm hm4
    go_enter Try.func17, Try.ntmps17
    go_wp2_with (go_at_call 30; (with_reducible refine cR.out.mono ?_); rintro en w1 HT; have HE := HT.1; subst HE)
    go_ret2
    exact gets_num HX fix_s rfl HT.2.1 HT.2.2
  · rw [D.rd3]
    obtain rfl := hm (by decide)
    have cR := Lib.hid (r_number q n c place e B l w m hmo h)
    clear hm hm4
    go_enter Try.func17, Try.ntmps17
    go_wp2_with (go_at_call 23; (with_reducible refine cR.out.mono ?_); rintro en w1 HT; have HE := HT.1; subst HE)
    go_ret2
    exact gets_num ⟨rfl⟩ num_s rfl HT.2.1 HT.2.2
  · rw [D.rd4]
    have hm' := hm4 rfl
    have hm2 : m < 1000000 := by omega
    have cR := r_text q n c place e B l w (m : Int) (by omega) (by omega) h
    rw [Int.toNat_natCast] at cR
    have cR := Lib.hid cR
    have e1 : (mo : Int) % 1000000 = (m : Int) := by omega
    clear hm hm4 hm'
    go_enter Try.func17, Try.ntmps17
    go_wp2_with (go_at_call 31; (with_reducible refine cR.out.mono ?_); rintro en w1 HT; have HE := HT.1; subst HE)
    go_ret2
    exact gets_txt txt_x rfl HT.2.1 HT.2.2
end
end Go.Proofs.Ytnihkpcfnkimoaa
