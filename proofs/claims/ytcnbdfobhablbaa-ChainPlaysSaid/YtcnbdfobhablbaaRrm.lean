/-
  What the document's Check asks, one after the other, is what is wrong with a record. No program is spoken of.
-/
import Derived.Test.YtcnbdfobhablbaaRcb
import Derived.Laws.StructEq
set_option linter.unusedVariables false
set_option maxRecDepth 100000
set_option linter.unusedSimpArgs false
namespace Go.Proofs.Ytcnbdfobhablbaa
namespace D
def usz (k : Nat) : ByteArray :=
  match k with
  | 1 => ⟨#[117]⟩
  | 2 => ⟨#[109]⟩
  | 4 => ⟨#[112, 115, 97]⟩
  | 5 => ⟨#[103, 114, 116]⟩
  | 6 => ⟨#[115, 117, 114, 116]⟩
  | _ => ⟨#[]⟩
def hsb (l : List UInt8) (c : Nat) : Bool := l.any fun x => decide (x.toNat = c)
def hk_ (k c : Nat) : Bool := hsb (usz k).data.toList c
def fbad (k s u p m v a : Nat) (g : Bool) (t : ByteArray) : Bool :=
  ((((((((((u : Int) != 0) && !hk_ k 117) || (((m : Int) != 0) && !hk_ k 109)) || (((p : Int) != 0) && !hk_ k 112)) || (((s : Int) != 0) && !hk_ k 115)) || (g && !hk_ k 103)) || (((v : Int) != 0) && !hk_ k 114)) || (((a : Int) != 0) && !hk_ k 97)) || ((t.toList != []) && !hk_ k 116))
def rbad (k s u p m v : Nat) : Bool :=
  (((((decide ((15 : Int) < (u : Nat)) || decide ((63 : Int) < (m : Nat))) || (((k : Nat) : Int) == (2 : Int) && ((m : Nat) : Int) == (0 : Int))) || decide ((3 : Int) < (p : Nat))) || (((k : Nat) : Int) == (4 : Int) && decide ((1 : Int) < (s : Nat)))) || (((k : Nat) : Int) == (6 : Int) && (decide (((s : Nat) : Int) < (1 : Int)) || decide ((5 : Int) < (s : Nat))))) || (decide ((5 : Int) ≤ (k : Nat)) && (decide (((v : Nat) : Int) < (1 : Int)) || decide ((4294967295 : Int) < (v : Nat))))
theorem ne0 (x : Nat) : (((x : Nat) : Int) != 0) = !decide (x = 0) := by
  by_cases h : x = 0
  · subst h; rfl
  · simp [h]
theorem net (t : ByteArray) : (t.toList != []) = !decide (t = ⟨#[]⟩) := by
  have h : (t.toList = []) ↔ t = ⟨#[]⟩ := by
    rw [ByteArray.toList_eq]
    constructor
    · intro h
      exact size0 (by have := congrArg List.length h; simpa using this)
    · rintro rfl; rfl
  by_cases h2 : t = ⟨#[]⟩
  · have h3 := h.2 h2
    simp [h2, h3]
  · have h3 : ¬ t.toList = [] := fun e => h2 (h.1 e)
    simp [h2, h3]
theorem fbad_is {k s u p m v a : Nat} {g : Bool} {t : ByteArray} (h1 : 1 ≤ k) (h6 : k ≤ 6) : fbad k s u p m v a g t = !decide (rinse ⟨k, s, u, p, m, g, v, a, t⟩ = bare k) := by
  have hk : k = 1 ∨ k = 2 ∨ k = 3 ∨ k = 4 ∨ k = 5 ∨ k = 6 := by omega
  unfold fbad
  simp only [ne0, net]
  have hgd : decide (g = false) = !g := by cases g <;> rfl
  rcases hk with rfl | rfl | rfl | rfl | rfl | rfl
  all_goals
    simp only [rinse, bare, Rc.mk.injEq, true_and, and_true, Bool.decide_and, hgd]
    simp only [hk_, show ∀ c, hsb (usz 1).data.toList c = decide (117 = c) from fun c => by simp [hsb, usz], show ∀ c, hsb (usz 2).data.toList c = decide (109 = c) from fun c => by simp [hsb, usz], show ∀ c, hsb (usz 3).data.toList c = false from fun c => by simp [hsb, usz], show ∀ c, hsb (usz 4).data.toList c = (decide (112 = c) || (decide (115 = c) || decide (97 = c))) from fun c => by simp [hsb, usz], show ∀ c, hsb (usz 5).data.toList c = (decide (103 = c) || (decide (114 = c) || decide (116 = c))) from fun c => by simp [hsb, usz], show ∀ c, hsb (usz 6).data.toList c = (decide (115 = c) || (decide (117 = c) || (decide (114 = c) || decide (116 = c)))) from fun c => by simp [hsb, usz]]
    generalize decide (u = 0) = U
    generalize decide (m = 0) = M
    generalize decide (p = 0) = Q
    generalize decide (s = 0) = S
    generalize decide (v = 0) = V
    generalize decide (a = 0) = A
    generalize decide (t = ⟨#[]⟩) = T
    cases U <;> cases M <;> cases Q <;> cases S <;> cases V <;> cases A <;> cases T <;> cases g <;> rfl
theorem chk_of {k s u p m v a : Nat} {g : Bool} {t : ByteArray} (h1 : 1 ≤ k) (h6 : k ≤ 6) :
    chk ⟨k, s, u, p, m, g, v, a, t⟩ = bif fbad k s u p m v a g t then 3 else bif rbad k s u p m v then 5 else bif decide ((60 : Int) < (t.size : Nat)) then 2 else bif (g && (t.toList != [])) then 3 else 0 := by
  have hk : k = 1 ∨ k = 2 ∨ k = 3 ∨ k = 4 ∨ k = 5 ∨ k = 6 := by omega
  have h0 : ¬ (k = 0 ∨ 6 < k) := by omega
  rw [fbad_is h1 h6, net]
  unfold chk
  simp only [if_neg h0]
  by_cases hr : rinse ⟨k, s, u, p, m, g, v, a, t⟩ = bare k
  · rw [if_neg (fun h => h hr), decide_eq_true hr]
    simp only [Bool.not_true, cond_false]
    have z0 : (⟨#[]⟩ : ByteArray).size = 0 := rfl
    have ht : ∀ t : ByteArray, (t.size = 0) ↔ t = ⟨#[]⟩ := fun t => ⟨size0, by rintro rfl; rfl⟩
    rcases hk with rfl | rfl | rfl | rfl | rfl | rfl
    all_goals
      simp only [rinse, bare, Rc.mk.injEq, true_and, and_true] at hr
    · obtain ⟨rfl, rfl, rfl, rfl, rfl, rfl, rfl⟩ := hr
      by_cases hu : u ≤ 15
      · have e0 : ¬ (15 : Int) < u := by omega
        simp [z0, amiss, inn, rbad, hu, e0, z0]
      · have : (15 : Int) < u := by omega
        simp [z0, amiss, inn, rbad, hu, this]
    · obtain ⟨rfl, rfl, rfl, rfl, rfl, rfl, rfl⟩ := hr
      by_cases hm : m = 0
      · subst hm
        simp [z0, amiss, inn, rbad]
      · by_cases hm2 : m ≤ 63
        · have e1 : 1 ≤ m := by omega
          have e2 : ¬ (63 : Int) < m := by omega
          have e3 : ((m : Int) == 0) = false := by simp; omega
          simp [z0, amiss, inn, rbad, e1, hm2, e2, hm, e3]
        · have e2 : (63 : Int) < m := by omega
          simp [z0, amiss, inn, rbad, hm2, e2, hm]
    · obtain ⟨rfl, rfl, rfl, rfl, rfl, rfl, rfl, rfl⟩ := hr
      simp [z0, amiss, rbad]
    · obtain ⟨rfl, rfl, rfl, rfl, rfl⟩ := hr
      by_cases hp : p ≤ 3
      · have e2 : ¬ (3 : Int) < p := by omega
        by_cases hs : s ≤ 1
        · have e3 : ¬ (1 : Int) < s := by omega
          simp [z0, amiss, inn, rbad, fst2, hp, hs, e2, e3]
        · have e3 : (1 : Int) < s := by omega
          simp [z0, amiss, inn, rbad, fst2, hp, hs, e2, e3]
      · have e2 : (3 : Int) < p := by omega
        simp [z0, amiss, inn, rbad, fst2, hp, e2]
    · obtain ⟨rfl, rfl, rfl, rfl, rfl⟩ := hr
      by_cases hv : 1 ≤ v ∧ v ≤ 4294967295
      · have e1 : ¬ (v : Int) < 1 := by omega
        have e2 : ¬ (4294967295 : Int) < v := by omega
        by_cases hz : t.size ≤ 60
        · have e3 : ¬ (60 : Int) < (t.size : Nat) := by omega
          cases g
          · simp [z0, amiss, inn, rbad, fst2, lng, hv, e1, e2, e3, hz]
          · by_cases htt : t = ⟨#[]⟩
            · subst htt
              simp [z0, amiss, inn, rbad, fst2, lng, hv, e1, e2]
            · have : ¬ t.size = 0 := fun h => htt ((ht t).1 h)
              simp [z0, amiss, inn, rbad, fst2, lng, hv, e1, e2, e3, hz, htt, this]
        · have e3 : (60 : Int) < (t.size : Nat) := by omega
          simp [z0, amiss, inn, rbad, fst2, lng, hv, e1, e2, e3, hz]
      · have e1 : (v : Int) < 1 ∨ (4294967295 : Int) < v := by omega
        rcases e1 with e1 | e1 <;> simp [z0, amiss, inn, rbad, fst2, lng, hv, e1]
    · obtain ⟨rfl, rfl, rfl, rfl⟩ := hr
      by_cases hu : u ≤ 15
      · have e0 : ¬ (15 : Int) < u := by omega
        by_cases hs : 1 ≤ s ∧ s ≤ 5
        · have e4 : ¬ (s : Int) < 1 := by omega
          have e5 : ¬ (5 : Int) < s := by omega
          by_cases hv : 1 ≤ v ∧ v ≤ 4294967295
          · have e1 : ¬ (v : Int) < 1 := by omega
            have e2 : ¬ (4294967295 : Int) < v := by omega
            by_cases hz : t.size ≤ 60
            · have e3 : ¬ (60 : Int) < (t.size : Nat) := by omega
              simp [z0, amiss, inn, rbad, fst2, lng, hu, hs, hv, e0, e4, e5, e1, e2, e3, hz]
            · have e3 : (60 : Int) < (t.size : Nat) := by omega
              simp [z0, amiss, inn, rbad, fst2, lng, hu, hs, hv, e0, e4, e5, e1, e2, e3, hz]
          · have e1 : (v : Int) < 1 ∨ (4294967295 : Int) < v := by omega
            rcases e1 with e1 | e1 <;> simp [z0, amiss, inn, rbad, fst2, lng, hu, hs, hv, e0, e4, e5, e1]
        · have e1 : (s : Int) < 1 ∨ (5 : Int) < s := by omega
          rcases e1 with e1 | e1 <;> simp [z0, amiss, inn, rbad, fst2, lng, hu, hs, e0, e1]
      · have e0 : (15 : Int) < u := by omega
        by_cases hs : 1 ≤ s ∧ s ≤ 5
        · simp [z0, amiss, inn, rbad, fst2, lng, hu, hs, e0]
        · simp [z0, amiss, inn, rbad, fst2, lng, hu, hs, e0]
  · rw [if_pos hr, decide_eq_false hr]
    rfl
end D
end Go.Proofs.Ytcnbdfobhablbaa
