/-
  
-/
import Derived.Test.YtgnjjlgmlokhmaaGreatDoorGow
import Derived.Test.YtgnjjlgmlokhmaaGreatDoorG03
import Derived.IntWalk
import Derived.BigQuiet
import Derived.Deep.QuietTactic
import Derived.Deep.DrawnRows
import Derived.Deep.CutRange
import Derived.Shelf.Pu.Clone
import Derived.Shelf.Strings.Builder1
import Derived.Shelf.Strings.Builder2
import Derived.Shelf.Strings.OnBuilder
import Derived.Shelf.Small.Utf8
import Derived.Shelf.Small.Bits
import Derived.Shelf.Small.Strs
import Derived.Shelf.Utf8.RuneCount
import Derived.Shelf.Strconv.Itoa0
import Derived.Shelf.Strconv.Itoa1
import Derived.Shelf.LaysM
import Derived.Shelf.Strconv.Itoa2
import Derived.Shelf.Strconv.Clone
import Derived.Shelf.Strings.Search1
import Derived.Shelf.Strings.Search2
import Derived.Shelf.Strings.Search3
import Derived.Shelf.Strings.Count
import Derived.Shelf.Strings.Shaped
import Derived.Shelf.Strings.Split
import Derived.Shelf.Strings.SplitShaped
import Derived.Shelf.Unicode.Latin
import Derived.Shelf.Unicode.Decode
import Derived.Shelf.Strings.RuneCount
import Derived.Shelf.Strings.Explode
import Derived.Shelf.Unicode.DecodeSlow
import Derived.Shelf.Unicode.DecodeAny
import Derived.Shelf.Unicode.CaseLookup
import Derived.Shelf.Unicode.CaseConvert
import Derived.Shelf.Unicode.CaseTo
import Derived.Shelf.Unicode.CaseLaid
import Derived.Shelf.Bytes.SlIndexSmall
import Derived.Shelf.Bytes.SlIndexAt
import Derived.Shelf.Bytes.SlSearch0
import Derived.Shelf.Bytes.SlSearch1
import Derived.Shelf.Bytes.SlSearch2
import Derived.Shelf.Bytes.SlIndexWhole
import Derived.Shelf.Bytes.SlCut
import Derived.Shelf.Bytes.Small
import Derived.Shelf.Bytes.IndexByte
import Derived.Test.YtgnjjlgmlokhmaaGreatDoorProg
import Derived.Test.YtgnjjlgmlokhmaaGreatDoorMem
import Derived.Deep.MidRow
import Derived.Deep.WholeRow
import Derived.Laws.StructEq
import Derived.DeepKeys4
import Derived.Maps.OwnSet
import Derived.KernelRfl
set_option linter.unusedVariables false
set_option linter.unusedSimpArgs false
set_option maxRecDepth 100000
namespace Go.Proofs.YtgnjjlgmlokhmaaGreatDoor
open Go.RowKit
attribute [local go_sem ↓] Go.wp_at_zero Go.wp_at_succ

def D.atI (l : List Nat) (i : Nat) : Int := match l[i]? with
 | some c => c
 | none => -1
theorem D.atI_some {l : List Nat} {i c : Nat} (h : l[i]? = some c) : D.atI l i = c := by unfold D.atI; rw [h]
theorem D.atI_none {l : List Nat} {i : Nat} (h : l.length <= i) : D.atI l i = -1 := by unfold D.atI; rw [List.getElem?_eq_none h]
theorem ns_get {s : ByteArray} {k : Nat} (h : k < s.size) : (D.ns s)[k]? = some s[k].toNat := by
 have h' : k < s.data.toList.length := by simpa using h
 simp only [D.ns, List.getElem?_map, List.getElem?_eq_getElem h', Option.map_some]
 rfl
theorem at_any (s : ByteArray) (i : Nat) (w : World) : Calls Tryz.prog 28 #[.string s, .int .i64 i] w fun e w' => e = .returned (.int .i64 (D.atI (D.ns s) i)) ∧ w = w' := by
 by_cases h : i < s.size
 ·have hI : (i : Int) < s.size := by omega
  have hl := D.atI_some (ns_get h)
  have h256 : (s[i].toNat : Int) < 256 := by have := s[i].toNat_lt; omega
  rw [hl]
  clear hl
  go_enter Tryz.func28, Tryz.ntmps28
  go_wp2
  go_ret
  exact ⟨rfl, rfl⟩
 ·have hI : (s.size : Int) <= i := by omega
  rw [D.atI_none (by rw [D.ns_len]; omega)]
  go_enter Tryz.func28, Tryz.ntmps28
  go_wp2
  go_ret
  exact ⟨rfl, rfl⟩
theorem skip_any (s : ByteArray) (i : Nat) (w : World) (hi : i <= s.size) (hs : s.size <= 1000000) : Calls Tryz.prog 53 #[.string s, .int .i64 i] w fun e w' => e = .returned (.int .i64 (D.far (· == 32) (D.ns s) i : Nat)) ∧ w = w' := by
 have cA := Lib.hid (fun k W => at_any s k W)
 have hlen := D.ns_len s
 obtain ⟨l, hl⟩ : ∃ l, D.ns s = l := ⟨_, rfl⟩
 rw [hl] at cA hlen ⊢
 clear hl
 go_enter Tryz.func53, Tryz.ntmps53
 go_wp2_with fail
 go_loopw [1] (fun a wr => ∃ k : Nat, k <= s.size ∧ a = .int .i64 k ∧ Kept (D.far (· == 32) l i = D.far (· == 32) l k) ∧ wr = w) (fun a _ => s.size - (intOf a).toNat)
 case atStart => exact ⟨i, hi, rfl, ⟨rfl⟩, rfl⟩
 case round =>
  obtain ⟨k, hk, rfl, HF, rfl⟩ := hrel
  have C := Lib.hid (cA.out k wr)
  clear cA
  by_cases hlt : k < s.size
  ·obtain ⟨c, hc⟩ : ∃ c, l[k]? = some c := ⟨_, List.getElem?_eq_getElem (by omega)⟩
   rw [D.atI_some hc] at C
   by_cases h32 : c = 32
   ·subst h32
    have HF' : Kept (D.far (· == 32) l i = D.far (· == 32) l (k + 1)) := ⟨HF.out.trans (D.far_step hc rfl)⟩
    clear HF hc
    go_wp2_with (go_at_call 28; (with_reducible refine C.out.mono ?_); rintro e w1 ⟨rfl, rfl⟩)
    go_roundw
    case rel => exact ⟨k + 1, by omega, by go_num, HF', trivial⟩
    case measure => simp [intOf]; omega
   ·have HF' : Kept (D.far (· == 32) l i = k) := ⟨HF.out.trans (D.far_stop hc (by simpa using h32))⟩
    have t : ((c : Int) == 32) = false := by simp; omega
    clear HF hc
    go_wp2_with (go_at_call 28; (with_reducible refine C.out.mono ?_); rintro e w1 ⟨rfl, rfl⟩)
    go_ret
    exact ⟨ret_of (by rw [HF'.out]), rfl⟩
  ·have HF' : Kept (D.far (· == 32) l i = k) := ⟨HF.out.trans (D.far_end (by omega))⟩
   rw [D.atI_none (by omega)] at C
   clear HF
   go_wp2_with (go_at_call 28; (with_reducible refine C.out.mono ?_); rintro e w1 ⟨rfl, rfl⟩)
   go_ret
   exact ⟨ret_of (by rw [HF'.out]), rfl⟩
theorem cls8 (c : Nat) : (c < 45 ∧ D.wdB c = false) ∨ (c = 45 ∧ D.wdB c = true) ∨ (c = 46 ∧ D.wdB c = true) ∨ (c = 47 ∧ D.wdB c = false) ∨ (48 <= c ∧ c <= 57 ∧ D.wdB c = true) ∨ (58 <= c ∧ c < 95 ∧ D.wdB c = false) ∨ (c = 95 ∧ D.wdB c = true) ∨ (c = 96 ∧ D.wdB c = false) ∨ (97 <= c ∧ c <= 122 ∧ D.wdB c = true) ∨ (122 < c ∧ D.wdB c = false) := by
 have key : D.wdB c = decide ((97 <= c ∧ c <= 122) ∨ (48 <= c ∧ c <= 57) ∨ c = 45 ∨ c = 95 ∨ c = 46) := by
  unfold D.wdB
  by_cases h1 : 97 <= c ∧ c <= 122 <;> by_cases h3 : 48 <= c ∧ c <= 57 <;> by_cases h5 : c = 45 <;> by_cases h6 : c = 95 <;> by_cases h7 : c = 46 <;> simp [*]
 rw [key]
 rcases (show c < 45 ∨ c = 45 ∨ c = 46 ∨ c = 47 ∨ (48 <= c ∧ c <= 57) ∨ (58 <= c ∧ c < 95) ∨ c = 95 ∨ c = 96 ∨ (97 <= c ∧ c <= 122) ∨ 122 < c by omega) with h | h | h | h | h | h | h | h | h | h
 ·exact .inl ⟨h, decide_eq_false (by omega)⟩
 ·exact .inr (.inl ⟨h, decide_eq_true (by omega)⟩)
 ·exact .inr (.inr (.inl ⟨h, decide_eq_true (by omega)⟩))
 ·exact .inr (.inr (.inr (.inl ⟨h, decide_eq_false (by omega)⟩)))
 ·exact .inr (.inr (.inr (.inr (.inl ⟨h.1, h.2, decide_eq_true (by omega)⟩))))
 ·exact .inr (.inr (.inr (.inr (.inr (.inl ⟨h.1, h.2, decide_eq_false (by omega)⟩)))))
 ·exact .inr (.inr (.inr (.inr (.inr (.inr (.inl ⟨h, decide_eq_true (by omega)⟩))))))
 ·exact .inr (.inr (.inr (.inr (.inr (.inr (.inr (.inl ⟨h, decide_eq_false (by omega)⟩)))))))
 ·exact .inr (.inr (.inr (.inr (.inr (.inr (.inr (.inr (.inl ⟨h.1, h.2, decide_eq_true (by omega)⟩))))))))
 ·exact .inr (.inr (.inr (.inr (.inr (.inr (.inr (.inr (.inr ⟨h, decide_eq_false (by omega)⟩))))))))
set_option maxHeartbeats 4000000 in
theorem run_any (s : ByteArray) (i : Nat) (w : World) (hi : i <= s.size) (hs : s.size <= 1000000) : Calls Tryz.prog 51 #[.string s, .int .i64 i] w fun e w' => e = .returned (.int .i64 (D.far D.wdB (D.ns s) i : Nat)) ∧ w = w' := by
 have hlen := D.ns_len s
 have hget := fun k (h : k < s.size) => ns_get h
 obtain ⟨l, hl⟩ : ∃ l, D.ns s = l := ⟨_, rfl⟩
 rw [hl] at hlen hget ⊢
 have HG := Lib.hid hget
 clear hl hget
 go_enter Tryz.func51, Tryz.ntmps51
 go_wp2_with fail
 go_loopw [1] (fun a wr => ∃ k : Nat, k <= s.size ∧ a = .int .i64 k ∧ Kept (D.far D.wdB l i = D.far D.wdB l k) ∧ wr = w) (fun a _ => s.size - (intOf a).toNat)
 case atStart => exact ⟨i, hi, rfl, ⟨rfl⟩, rfl⟩
 case round =>
  obtain ⟨k, hk, rfl, HF, rfl⟩ := hrel
  by_cases hlt : k < s.size
  ·have hI : (k : Int) < s.size := by omega
   have hc := HG.out k hlt
   have hst := fun (h : D.wdB s[k].toNat = true) => HF.out.trans (D.far_step hc h)
   have hsp := fun (h : D.wdB s[k].toNat = false) => HF.out.trans (D.far_stop hc h)
   have ht := cls8 s[k].toNat
   have ST := Lib.hid hst
   have SP := Lib.hid hsp
   clear hst hsp hc HF HG
   rcases ht with ⟨h, hb⟩ | ⟨h, hb⟩ | ⟨h, hb⟩ | ⟨h, hb⟩ | ⟨h, h2, hb⟩ | ⟨h, h2, hb⟩ | ⟨h, hb⟩ | ⟨h, hb⟩ | ⟨h, h2, hb⟩ | ⟨h, hb⟩
   ·have i0 : ((s[k].toNat : Int) < 97) := by omega
    have i1 : ((s[k].toNat : Int) < 48) := by omega
    have q45 : ((s[k].toNat : Int) == 45) = false := by simp; omega
    have q95 : ((s[k].toNat : Int) == 95) = false := by simp; omega
    have q46 : ((s[k].toNat : Int) == 46) = false := by simp; omega
    have HF' : Kept (D.far D.wdB l i = k) := ⟨SP.out hb⟩
    clear ST SP hb h
    go_wp2
    go_ret
    exact ⟨ret_of (by rw [HF'.out]), rfl⟩
   ·have i0 : ((s[k].toNat : Int) < 97) := by omega
    have i1 : ((s[k].toNat : Int) < 48) := by omega
    have q45 : ((s[k].toNat : Int) == 45) = true := by simp; omega
    have HF' : Kept (D.far D.wdB l i = D.far D.wdB l (k + 1)) := ⟨ST.out hb⟩
    clear ST SP hb h
    go_wp2
    go_roundw
    case rel => exact ⟨k + 1, by omega, by go_num, HF', trivial⟩
    case measure => simp [intOf]; omega
   ·have i0 : ((s[k].toNat : Int) < 97) := by omega
    have i1 : ((s[k].toNat : Int) < 48) := by omega
    have q45 : ((s[k].toNat : Int) == 45) = false := by simp; omega
    have q95 : ((s[k].toNat : Int) == 95) = false := by simp; omega
    have q46 : ((s[k].toNat : Int) == 46) = true := by simp; omega
    have HF' : Kept (D.far D.wdB l i = D.far D.wdB l (k + 1)) := ⟨ST.out hb⟩
    clear ST SP hb h
    go_wp2
    go_roundw
    case rel => exact ⟨k + 1, by omega, by go_num, HF', trivial⟩
    case measure => simp [intOf]; omega
   ·have i0 : ((s[k].toNat : Int) < 97) := by omega
    have i1 : ((s[k].toNat : Int) < 48) := by omega
    have q45 : ((s[k].toNat : Int) == 45) = false := by simp; omega
    have q95 : ((s[k].toNat : Int) == 95) = false := by simp; omega
    have q46 : ((s[k].toNat : Int) == 46) = false := by simp; omega
    have HF' : Kept (D.far D.wdB l i = k) := ⟨SP.out hb⟩
    clear ST SP hb h
    go_wp2
    go_ret
    exact ⟨ret_of (by rw [HF'.out]), rfl⟩
   ·have i0 : ((s[k].toNat : Int) < 97) := by omega
    have i1 : ((48 : Int) <= s[k].toNat) := by omega
    have i2 : ((s[k].toNat : Int) <= 57) := by omega
    have HF' : Kept (D.far D.wdB l i = D.far D.wdB l (k + 1)) := ⟨ST.out hb⟩
    clear ST SP hb h h2
    go_wp2
    go_roundw
    case rel => exact ⟨k + 1, by omega, by go_num, HF', trivial⟩
    case measure => simp [intOf]; omega
   ·have i0 : ((s[k].toNat : Int) < 97) := by omega
    have i1 : ((48 : Int) <= s[k].toNat) := by omega
    have i2 : ((57 : Int) < s[k].toNat) := by omega
    have q45 : ((s[k].toNat : Int) == 45) = false := by simp; omega
    have q95 : ((s[k].toNat : Int) == 95) = false := by simp; omega
    have q46 : ((s[k].toNat : Int) == 46) = false := by simp; omega
    have HF' : Kept (D.far D.wdB l i = k) := ⟨SP.out hb⟩
    clear ST SP hb h h2
    go_wp2
    go_ret
    exact ⟨ret_of (by rw [HF'.out]), rfl⟩
   ·have i0 : ((s[k].toNat : Int) < 97) := by omega
    have i1 : ((48 : Int) <= s[k].toNat) := by omega
    have i2 : ((57 : Int) < s[k].toNat) := by omega
    have q45 : ((s[k].toNat : Int) == 45) = false := by simp; omega
    have q95 : ((s[k].toNat : Int) == 95) = true := by simp; omega
    have HF' : Kept (D.far D.wdB l i = D.far D.wdB l (k + 1)) := ⟨ST.out hb⟩
    clear ST SP hb h
    go_wp2
    go_roundw
    case rel => exact ⟨k + 1, by omega, by go_num, HF', trivial⟩
    case measure => simp [intOf]; omega
   ·have i0 : ((s[k].toNat : Int) < 97) := by omega
    have i1 : ((48 : Int) <= s[k].toNat) := by omega
    have i2 : ((57 : Int) < s[k].toNat) := by omega
    have q45 : ((s[k].toNat : Int) == 45) = false := by simp; omega
    have q95 : ((s[k].toNat : Int) == 95) = false := by simp; omega
    have q46 : ((s[k].toNat : Int) == 46) = false := by simp; omega
    have HF' : Kept (D.far D.wdB l i = k) := ⟨SP.out hb⟩
    clear ST SP hb h
    go_wp2
    go_ret
    exact ⟨ret_of (by rw [HF'.out]), rfl⟩
   ·have i0 : ((97 : Int) <= s[k].toNat) := by omega
    have i1 : ((s[k].toNat : Int) <= 122) := by omega
    have HF' : Kept (D.far D.wdB l i = D.far D.wdB l (k + 1)) := ⟨ST.out hb⟩
    clear ST SP hb h h2
    go_wp2
    go_roundw
    case rel => exact ⟨k + 1, by omega, by go_num, HF', trivial⟩
    case measure => simp [intOf]; omega
   ·have i0 : ((97 : Int) <= s[k].toNat) := by omega
    have i1 : ((122 : Int) < s[k].toNat) := by omega
    have i2 : ((48 : Int) <= s[k].toNat) := by omega
    have i3 : ((57 : Int) < s[k].toNat) := by omega
    have q45 : ((s[k].toNat : Int) == 45) = false := by simp; omega
    have q95 : ((s[k].toNat : Int) == 95) = false := by simp; omega
    have q46 : ((s[k].toNat : Int) == 46) = false := by simp; omega
    have HF' : Kept (D.far D.wdB l i = k) := ⟨SP.out hb⟩
    clear ST SP hb h
    go_wp2
    go_ret
    exact ⟨ret_of (by rw [HF'.out]), rfl⟩
  ·have hI : (s.size : Int) <= k := by omega
   have HF' : Kept (D.far D.wdB l i = k) := ⟨HF.out.trans (D.far_end (by omega))⟩
   clear HF HG
   go_wp2
   go_ret
   exact ⟨ret_of (by rw [HF'.out]), rfl⟩
def D.plI (v : Bool) (c : Int) : Bool := decide (32 <= c ∧ c ≠ 127 ∧ c ≠ 123 ∧ c ≠ 125 ∧ (c ≠ 35 ∨ v = false))
theorem D.plI_some (v : Bool) (c : Nat) : D.plI v c = D.plB v c := by
 have h127 : ((c : Int) ≠ 127) ↔ c ≠ 127 := by omega
 have h123 : ((c : Int) ≠ 123) ↔ c ≠ 123 := by omega
 have h125 : ((c : Int) ≠ 125) ↔ c ≠ 125 := by omega
 have h35 : ((c : Int) ≠ 35) ↔ c ≠ 35 := by omega
 have h32 : ((32 : Int) <= c) ↔ 32 <= c := by omega
 unfold D.plI D.plB
 simp only [h127, h123, h125, h35, h32]
 cases v <;> by_cases h1 : 32 <= c <;> by_cases h2 : c = 127 <;> by_cases h3 : c = 123 <;> by_cases h4 : c = 125 <;> by_cases h5 : c = 35 <;> simp [*]
theorem D.plI_none (v : Bool) : D.plI v (-1) = false := by cases v <;> decide
set_option maxHeartbeats 4000000 in
theorem plain_any (c : Int) (v : Bool) (w : World) : Calls Tryz.prog 27 #[.int .i64 c, .bool v] w fun e w' => e = .returned (.bool (D.plI v c)) ∧ w = w' := by
 by_cases h1 : 32 <= c
 ·by_cases h2 : c = 127
  ·subst h2
   rw [show D.plI v 127 = false from decide_eq_false (by omega)]
   go_enter Tryz.func27, Tryz.ntmps27
   go_wp2
   go_ret
   exact ⟨rfl, rfl⟩
  ·have q1 : (c != 127) = true := by simpa using h2
   by_cases h3 : c = 123
   ·subst h3
    rw [show D.plI v 123 = false from decide_eq_false (by omega)]
    go_enter Tryz.func27, Tryz.ntmps27
    go_wp2
    go_ret
    exact ⟨rfl, rfl⟩
   ·have q2 : (c != 123) = true := by simpa using h3
    by_cases h4 : c = 125
    ·subst h4
     rw [show D.plI v 125 = false from decide_eq_false (by omega)]
     go_enter Tryz.func27, Tryz.ntmps27
     go_wp2
     go_ret
     exact ⟨rfl, rfl⟩
    ·have q3 : (c != 125) = true := by simpa using h4
     by_cases h5 : c = 35
     ·subst h5
      cases v
      ·rw [show D.plI false 35 = true from rfl]
       go_enter Tryz.func27, Tryz.ntmps27
       go_wp2
       go_ret
       exact ⟨rfl, rfl⟩
      ·rw [show D.plI true 35 = false from rfl]
       go_enter Tryz.func27, Tryz.ntmps27
       go_wp2
       go_ret
       exact ⟨rfl, rfl⟩
     ·have q4 : (c != 35) = true := by simpa using h5
      rw [show D.plI v c = true from decide_eq_true ⟨h1, h2, h3, h4, .inl h5⟩]
      clear h2 h3 h4 h5
      go_enter Tryz.func27, Tryz.ntmps27
      go_wp2
      go_ret
      exact ⟨rfl, rfl⟩
 ·have h1' : c < 32 := by omega
  rw [show D.plI v c = false from decide_eq_false (by omega)]
  go_enter Tryz.func27, Tryz.ntmps27
  go_wp2
  go_ret
  exact ⟨rfl, rfl⟩

structure Fr (S : Nat -> Prop) (w w' : World) : Prop where
 os : w'.os = w.os
 tape : w'.tape = w.tape
 output : w'.output = w.output
 size : w.heap.size <= w'.heap.size
 same : ∀ i, i < w.heap.size -> ¬ S i -> w'.heap[i]? = w.heap[i]?
section
variable {S S' : Nat -> Prop} {w w' w2 : World}
theorem Fr.refl (S : Nat -> Prop) (w : World) : Fr S w w := ⟨rfl, rfl, rfl, Nat.le_refl _, fun _ _ _ => rfl⟩
theorem Fr.of_below {B : Nat} (hb : Below B w w') (hB : w.heap.size <= B) : Fr S w w' := ⟨hb.os, hb.tape, hb.output, hb.size, fun i hi _ => hb.block i (Nat.lt_of_lt_of_le hi hB)⟩
theorem Fr.trans (h : Fr S w w') (k : Fr S' w' w2) (hs : ∀ i, i < w.heap.size -> S' i -> S i) : Fr S w w2 :=
 ⟨k.os.trans h.os, k.tape.trans h.tape, k.output.trans h.output, Nat.le_trans h.size k.size, fun i hi hn => (k.same i (Nat.lt_of_lt_of_le hi h.size) fun hq => hn (hs i hi hq)).trans (h.same i hi hn)⟩
theorem Fr.step (h : Fr S w w') (k : Fr S w' w2) : Fr S w w2 := h.trans k fun _ _ h => h
theorem Fr.mono (h : Fr S w w') (hs : ∀ i, i < w.heap.size -> S i -> S' i) : Fr S' w w' := ⟨h.os, h.tape, h.output, h.size, fun i hi hn => h.same i hi fun hq => hn (hs i hi hq)⟩
theorem Fr.below (h : Fr S w w') {B : Nat} (hB : B <= w.heap.size) (hs : ∀ i, i < B -> ¬ S i) : Below B w w' := ⟨h.os, h.tape, h.output, h.size, fun i hi => h.same i (Nat.lt_of_lt_of_le hi hB) (hs i hi)⟩
theorem Fr.alloc (h : Fr S w w') (o : Obj) : Fr S w (w'.alloc o) := h.trans (S' := S) (Fr.of_below ((Below.refl _ _).alloc (Nat.le_refl _) o) (Nat.le_refl _)) fun _ _ h => h
theorem Fr.setCell (h : Fr S w w') (p : Addr) (u : Value) (hp : p.block < w.heap.size -> S p.block) : Fr S w (w'.setCell p u) :=
 ⟨h.os, h.tape, h.output, by simpa using h.size, fun i hi hn => (Below.heap_setCell w' p u i (fun e => hn (e ▸ hp (e ▸ hi)))).trans (h.same i hi hn)⟩
theorem Fr.blk (h : Fr S w w') {g : Nat} {t : TypeId} {cs : Array Value} (hb : Blk w g t cs) (hg : ¬ S g) : Blk w' g t cs := ⟨(h.same g hb.lt hg).trans hb.out⟩
theorem Fr.cell (h : Fr S w w') {p : Addr} {v : Value} (hc : w.cell? p = some v) (hg : ¬ S p.block) : w'.cell? p = some v := (World.cell?_of_block (w := w) (h.same _ (World.block_lt_of_cell? w _ hc) hg)).trans hc
theorem Fr.keeps {F : Nat -> Prop} (h : Fr S w w') (hF : ∀ i, F i -> ¬ S i) : (w.heap.size <= w'.heap.size) ∧ ∀ b, F b -> b < w.heap.size -> w'.heap[b]? = w.heap[b]? := ⟨h.size, fun b hb hl => h.same b hl (hF b hb)⟩
end
theorem Blk.c_ {w : World} {g : Nat} {t : TypeId} {cs : Array Value} (h : Blk w g t cs) (i : Nat) : w.cell? ⟨g, i, none⟩ = cs[i]? := cell_of_row w g i cs t (0, 0) h.out
theorem Blk.f_ {w : World} {g : Nat} {t : TypeId} {cs : Array Value} (h : Blk w g t cs) (i : Nat) : w.frozen? ⟨g, i, none⟩ = false := by
 have := h.out
 simp [World.frozen?, this]
theorem Blk.put_ {w : World} {g : Nat} {t : TypeId} {cs : Array Value} (h : Blk w g t cs) (i : Nat) (u : Value) : Blk (w.setCell ⟨g, i, none⟩ u) g t (cs.setIfInBounds i u) := by
 have := h.out
 exact ⟨by simp [World.setCell, Array.getElem?_modify, this]⟩
def Rdr (w : World) (g : Nat) (s : ByteArray) (a e : Nat) : Prop := Blk w g 45 #[.string s, .int .i64 (a : Nat), .int .i64 (e : Nat)]
section
variable {w w' : World} {g a e : Nat} {s : ByteArray}
theorem Rdr.lt (h : Rdr w g s a e) : g < w.heap.size := Blk.lt h
theorem Rdr.c0 (h : Rdr w g s a e) : w.cell? ⟨g, 0, none⟩ = some (.string s) := Blk.c_ h 0
theorem Rdr.c1 (h : Rdr w g s a e) : w.cell? ⟨g, 1, none⟩ = some (.int .i64 (a : Nat)) := Blk.c_ h 1
theorem Rdr.c2 (h : Rdr w g s a e) : w.cell? ⟨g, 2, none⟩ = some (.int .i64 (e : Nat)) := Blk.c_ h 2
theorem Rdr.f (h : Rdr w g s a e) (i : Nat) : w.frozen? ⟨g, i, none⟩ = false := Blk.f_ h i
theorem Rdr.on (h : Rdr w g s a e) (hb : Below w.heap.size w w') : Rdr w' g s a e := Blk.on h hb
theorem Rdr.fr {S : Nat -> Prop} (h : Rdr w g s a e) (k : Fr S w w') (hg : ¬ S g) : Rdr w' g s a e := k.blk h hg
theorem Rdr.put1 (h : Rdr w g s a e) (b : Nat) : Rdr (w.setCell ⟨g, 1, none⟩ (.int .i64 (b : Nat))) g s b e := Blk.put_ h 1 _
theorem Rdr.put2 (h : Rdr w g s a e) (b : Nat) : Rdr (w.setCell ⟨g, 2, none⟩ (.int .i64 (b : Nat))) g s a b := Blk.put_ h 2 _
end
abbrev vr (g : Nat) : Value := .pointer (some ⟨g, 0, none⟩)
def D.nb (l : List Nat) (a e : Nat) : Nat := if e = 0 then l.getD a 0 else 0
theorem D.nb_dead {l : List Nat} {a e : Nat} (h : e ≠ 0) : D.nb l a e = 0 := if_neg h
theorem D.nb_live {l : List Nat} {a : Nat} : D.nb l a 0 = l.getD a 0 := if_pos rfl
theorem next_any (s : ByteArray) (g a e : Nat) (w : World) (h : Rdr w g s a e) (ha : a <= s.size) : Calls Tryz.prog 22 #[vr g] w fun x w' => x = .returned (.int .u8 (D.nb (D.ns s) a e : Nat)) ∧ Below w.heap.size w w' := by
 have c0 := h.c0
 have c1 := h.c1
 have c2 := h.c2
 have hlen := D.ns_len s
 by_cases he : e = 0
 ·subst he
  by_cases hlt : a < s.size
  ·have hx : D.nb (D.ns s) a 0 = s[a].toNat := by
    rw [D.nb_live, List.getD, ns_get hlt]; rfl
   have hI : (a : Int) < s.size := by omega
   have hne : ((a : Int) == (s.size : Int)) = false := by simp; omega
   rw [hx]
   clear hx h
   go_enter Tryz.func22, Tryz.ntmps22
   go_wp2
   go_quiet (fail)
   go_wp2
   go_quiet (fail)
   go_wp2
   go_ret
   exact ⟨rfl, ⟨rfl, rfl, rfl, Nat.le_refl _, fun _ _ => rfl⟩⟩
  ·have hx : D.nb (D.ns s) a 0 = 0 := by
    rw [D.nb_live, List.getD, List.getElem?_eq_none (by omega)]; rfl
   have hne : ((a : Int) == (s.size : Int)) = true := by simp; omega
   rw [hx]
   clear hx h
   go_enter Tryz.func22, Tryz.ntmps22
   go_wp2
   go_quiet (fail)
   go_wp2
   go_ret
   exact ⟨rfl, ⟨rfl, rfl, rfl, Nat.le_refl _, fun _ _ => rfl⟩⟩
 ·rw [D.nb_dead he]
  have hne : ((e : Int) != 0) = true := by simp; omega
  clear h
  go_enter Tryz.func22, Tryz.ntmps22
  go_wp2
  go_quiet (fail)
  go_wp2
  go_ret
  exact ⟨rfl, ⟨rfl, rfl, rfl, Nat.le_refl _, fun _ _ => rfl⟩⟩
def D.fl (a e b f : Nat) : Nat × Nat := if e = 0 then (b, f) else (a, e)
theorem fail_any (s : ByteArray) (g a e b f : Nat) (w : World) (h : Rdr w g s a e) (z : Int) (hz : z = f) : Calls Tryz.prog 12 #[vr g, .int .i64 (b : Nat), .int .i64 z] w fun x w' => x = .returned (.tuple #[]) ∧ Rdr w' g s (D.fl a e b f).1 (D.fl a e b f).2 ∧ Fr (· = g) w w' := by
 subst hz
 have c2 := h.c2
 have c1 := h.c1
 have ff := h.f
 have hl := h.lt
 by_cases he : e = 0
 ·subst he
  have h1 := (h.put1 b).put2 f
  have H1 := Lib.hid h1
  clear h1 h
  go_enter Tryz.func12, Tryz.ntmps12
  go_wp2
  go_end0
  exact ⟨rfl, H1.out, ((Fr.refl (· = g) w).setCell _ _ fun _ => rfl).setCell _ _ fun _ => rfl⟩
 ·have hne : ((e : Int) == 0) = false := by simp; omega
  have H1 : Hid (Rdr w g s (D.fl a e b f).1 (D.fl a e b f).2) := Lib.hid (by unfold D.fl; rw [if_neg he]; exact h)
  clear h
  go_enter Tryz.func12, Tryz.ntmps12
  go_wp2
  go_end0
  exact ⟨rfl, H1.out, Fr.refl _ _⟩
def D.tk (l : List Nat) (c a e : Nat) : Nat × Nat := if D.nb l a e = c then (a + 1, e) else D.fl a e a 3
theorem take_any (s : ByteArray) (g a e c : Nat) (w : World) (h : Rdr w g s a e) (ha : a <= s.size) (hs : s.size <= 1000) (hc : c < 256) (z : Int) (hz : z = c) : Calls Tryz.prog 24 #[vr g, .int .u8 z] w fun x w' => x = .returned (.tuple #[]) ∧ Rdr w' g s (D.tk (D.ns s) c a e).1 (D.tk (D.ns s) c a e).2 ∧ Fr (· = g) w w' := by
 subst hz
 have cN := Lib.hid (next_any s g a e w h ha)
 have cF := Lib.hid (fun W (hW : Rdr W g s a e) => fail_any s g a e a 3 W hW 3 rfl)
 obtain ⟨l, hl⟩ : ∃ l, D.ns s = l := ⟨_, rfl⟩
 rw [hl] at cN ⊢
 obtain ⟨x, hx⟩ : ∃ x, D.nb l a e = x := ⟨_, rfl⟩
 have HH := Lib.hid h
 unfold D.tk
 rw [hx] at cN ⊢
 clear h hl hx
 by_cases hq : x = c
 ·subst hq
  rw [if_pos rfl]
  have t : ((x : Int) != (x : Int)) = false := by simp
  go_enter Tryz.func24, Tryz.ntmps24
  go_wp2_with (go_at_call 22; (with_reducible refine cN.out.mono ?_); rintro y w1 ⟨rfl, b1⟩; have H1 := Lib.hid (HH.out.on b1); have c1 := H1.out.c1; have c2 := H1.out.c2; have ff := H1.out.f; have hl := H1.out.lt; have B1 := Lib.hid b1; clear b1)
  go_end0
  refine ⟨rfl, ?_, (Fr.of_below (S := (· = g)) B1.out (Nat.le_refl _)).setCell _ _ fun _ => rfl⟩
  have h2 := H1.out.put1 (a + 1)
  have e1 : ((a + 1 : Nat) : Int) = (a : Int) + 1 := by omega
  rw [e1] at h2
  simpa using h2
 ·rw [if_neg hq]
  have t : ((x : Int) != (c : Int)) = true := by simp; omega
  go_enter Tryz.func24, Tryz.ntmps24
  go_wp2_with (first
   | (go_at_call 22; (with_reducible refine cN.out.mono ?_); rintro y w1 ⟨rfl, b1⟩; have H1 := Lib.hid (HH.out.on b1); have c1 := H1.out.c1; have c2 := H1.out.c2; have ff := H1.out.f; have hl := H1.out.lt; have B1 := Lib.hid b1; clear b1)
   | (go_at_call 12; (with_reducible refine (cF.out _ H1.out).mono ?_); rintro y w2 ⟨rfl, h2, f2⟩))
  refine bodyPost_ret (v := .tuple #[]) (by simp [results, Tryz.results24, go_sem]) rfl ?_
  exact ⟨rfl, h2, (Fr.of_below (S := (· = g)) B1.out (Nat.le_refl _)).step f2⟩
def cln_ren : Go.Shelf.Ren := ⟨fun | 25 => 62 | n => n, fun | 37 => 90 | 47 => 126 | 9 => 9 | 4 => 4 | 3 => 3 | 5 => 5 | 0 => 0 | n => n, fun n => n⟩
theorem cln_lays : Go.Proofs.LaysPu.n25 Tryz.prog cln_ren := {
 mixed := by kernel_rfl
 f25 := Tryz.func62.trans (congrArg some (by kernel_rfl))
 t0 := by kernel_rfl
 a0 := fun _ => by kernel_rfl
 z0 := fun _ => by kernel_rfl
 v0 := fun _ => by kernel_rfl
 i0 := by kernel_rfl
 t3 := Tryz.underlying3
 a3 := Tryz.isAgg3
 z3 := Tryz.sizeOf3
 v3 := Tryz.zeroValue3
 i3 := by kernel_rfl
 t4 := Tryz.underlying4
 a4 := Tryz.isAgg4
 z4 := Tryz.sizeOf4
 v4 := Tryz.zeroValue4
 i4 := by kernel_rfl
 t5 := Tryz.underlying5
 a5 := Tryz.isAgg5
 z5 := Tryz.sizeOf5
 v5 := Tryz.zeroValue5
 i5 := by kernel_rfl
 t9 := Tryz.underlying9
 a9 := Tryz.isAgg9
 z9 := Tryz.sizeOf9
 v9 := Tryz.zeroValue9
 i9 := by kernel_rfl
 t37 := Tryz.underlying90
 a37 := Tryz.isAgg90
 z37 := Tryz.sizeOf90
 v37 := Tryz.zeroValue90
 i37 := by kernel_rfl
 t47 := Tryz.underlying126
 a47 := Tryz.isAgg126
 z47 := Tryz.sizeOf126
 v47 := Tryz.zeroValue126
 i47 := by kernel_rfl }
theorem clone_any (s : ByteArray) (w : World) (hs : s.size <= 1000000) : Calls Tryz.prog 35 #[.string s] w fun e w' => e = .returned (.string s) ∧ Below w.heap.size w w' := by
 have cI : Hid (Calls Tryz.prog 62 #[.string s] w fun e w' => e = .returned (.string s) ∧ Below w.heap.size w w') := Lib.hid (AnyPu.stringslite_Clone cln_lays s w (by omega))
 go_enter Tryz.func35, Tryz.ntmps35
 go_wp2_with (go_at_call 62; (with_reducible refine cI.out.mono ?_); rintro y w1 ⟨rfl, b1⟩)
 go_ret
 exact ⟨rfl, b1⟩
end Go.Proofs.YtgnjjlgmlokhmaaGreatDoor
namespace Go.Proofs.YtgnjjlgmlokhmaaGreatDoor
open Go.Shelf Go.RowKit
def lays158_ren : Go.Shelf.Ren := ⟨fun | 158 => 158 | 165 => 164 | 166 => 56 | 167 => 60 | 169 => 31 | 230 => 165 | 203 => 167 | 240 => 82 | 241 => 172 | 197 => 173 | 118 => 174 | 168 => 175 | 270 => 176 | 262 => 177 | 276 => 108 | 277 => 181 | 260 => 182 | 242 => 183 | 313 => 184 | 278 => 188 | 274 => 189 | 275 => 190 | n => n, fun | 9 => 9 | 4 => 4 | 3 => 3 | 5 => 5 | 72 => 92 | 0 => 0 | 76 => 121 | 75 => 120 | 107 => 222 | 70 => 89 | 20 => 20 | 37 => 90 | 127 => 126 | 21 => 21 | 105 => 224 | 164 => 165 | 162 => 234 | 203 => 232 | 119 => 235 | 46 => 133 | 139 => 238 | 138 => 237 | 51 => 158 | 160 => 239 | 208 => 246 | 206 => 244 | 80 => 96 | n => n, fun | 13 => 6 | 3 => 7 | 4 => 8 | n => n⟩
theorem lays158 : Go.Proofs.Lays.n158 Tryz.prog lays158_ren := {
 mixed := by kernel_rfl
 f118 := Tryz.func174.trans (congrArg some (by kernel_rfl))
 f158 := Tryz.func158.trans (congrArg some (by kernel_rfl))
 f165 := Tryz.func164.trans (congrArg some (by kernel_rfl))
 f166 := Tryz.func56.trans (congrArg some (by kernel_rfl))
 f167 := Tryz.func60.trans (congrArg some (by kernel_rfl))
 f168 := Tryz.func175.trans (congrArg some (by kernel_rfl))
 f169 := Tryz.func31.trans (congrArg some (by kernel_rfl))
 f197 := Tryz.func173.trans (congrArg some (by kernel_rfl))
 f203 := Tryz.func167.trans (congrArg some (by kernel_rfl))
 f230 := Tryz.func165.trans (congrArg some (by kernel_rfl))
 f240 := Tryz.func82.trans (congrArg some (by kernel_rfl))
 f241 := Tryz.func172.trans (congrArg some (by kernel_rfl))
 f242 := Tryz.func183.trans (congrArg some (by kernel_rfl))
 f260 := Tryz.func182.trans (congrArg some (by kernel_rfl))
 f262 := Tryz.func177.trans (congrArg some (by kernel_rfl))
 f270 := Tryz.func176.trans (congrArg some (by kernel_rfl))
 f274 := Tryz.func189.trans (congrArg some (by kernel_rfl))
 f275 := Tryz.func190.trans (congrArg some (by kernel_rfl))
 f276 := Tryz.func108.trans (congrArg some (by kernel_rfl))
 f277 := Tryz.func181.trans (congrArg some (by kernel_rfl))
 f278 := Tryz.func188.trans (congrArg some (by kernel_rfl))
 f313 := Tryz.func184.trans (congrArg some (by kernel_rfl))
 t0 := Tryz.underlying0
 a0 := Tryz.isAgg0
 z0 := Tryz.sizeOf0
 v0 := Tryz.zeroValue0
 t3 := Tryz.underlying3
 a3 := Tryz.isAgg3
 z3 := Tryz.sizeOf3
 v3 := Tryz.zeroValue3
 t4 := Tryz.underlying4
 a4 := Tryz.isAgg4
 z4 := Tryz.sizeOf4
 v4 := Tryz.zeroValue4
 t5 := Tryz.underlying5
 a5 := Tryz.isAgg5
 z5 := Tryz.sizeOf5
 v5 := Tryz.zeroValue5
 t9 := Tryz.underlying9
 a9 := Tryz.isAgg9
 z9 := Tryz.sizeOf9
 v9 := Tryz.zeroValue9
 t20 := Tryz.underlying20
 a20 := Tryz.isAgg20
 z20 := Tryz.sizeOf20
 v20 := Tryz.zeroValue20
 t21 := Tryz.underlying21
 a21 := Tryz.isAgg21
 z21 := Tryz.sizeOf21
 v21 := Tryz.zeroValue21
 t37 := Tryz.underlying90
 a37 := Tryz.isAgg90
 z37 := Tryz.sizeOf90
 v37 := Tryz.zeroValue90
 t46 := Tryz.underlying133
 a46 := Tryz.isAgg133
 z46 := Tryz.sizeOf133
 v46 := Tryz.zeroValue133
 t51 := Tryz.underlying158
 a51 := Tryz.isAgg158
 z51 := Tryz.sizeOf158
 v51 := Tryz.zeroValue158
 t70 := Tryz.underlying89
 a70 := Tryz.isAgg89
 z70 := Tryz.sizeOf89
 v70 := Tryz.zeroValue89
 t72 := Tryz.underlying92
 a72 := Tryz.isAgg92
 z72 := Tryz.sizeOf92
 v72 := Tryz.zeroValue92
 t75 := Tryz.underlying120
 a75 := Tryz.isAgg120
 z75 := Tryz.sizeOf120
 v75 := Tryz.zeroValue120
 t76 := Tryz.underlying121
 a76 := Tryz.isAgg121
 z76 := Tryz.sizeOf121
 v76 := Tryz.zeroValue121
 t105 := Tryz.underlying224
 a105 := Tryz.isAgg224
 z105 := Tryz.sizeOf224
 v105 := Tryz.zeroValue224
 t107 := Tryz.underlying222
 a107 := Tryz.isAgg222
 z107 := Tryz.sizeOf222
 v107 := Tryz.zeroValue222
 t119 := Tryz.underlying235
 a119 := Tryz.isAgg235
 z119 := Tryz.sizeOf235
 t127 := Tryz.underlying126
 a127 := Tryz.isAgg126
 z127 := Tryz.sizeOf126
 v127 := Tryz.zeroValue126
 t138 := Tryz.underlying237
 a138 := Tryz.isAgg237
 z138 := Tryz.sizeOf237
 v138 := Tryz.zeroValue237
 t139 := Tryz.underlying238
 a139 := Tryz.isAgg238
 z139 := Tryz.sizeOf238
 v139 := Tryz.zeroValue238
 t160 := Tryz.underlying239
 a160 := Tryz.isAgg239
 z160 := Tryz.sizeOf239
 v160 := Tryz.zeroValue239
 t162 := Tryz.underlying234
 a162 := Tryz.isAgg234
 z162 := Tryz.sizeOf234
 v162 := Tryz.zeroValue234
 t164 := Tryz.underlying165
 a164 := Tryz.isAgg165
 z164 := Tryz.sizeOf165
 v164 := Tryz.zeroValue165
 t203 := Tryz.underlying232
 a203 := Tryz.isAgg232
 z203 := Tryz.sizeOf232
 v203 := Tryz.zeroValue232
 t206 := Tryz.underlying244
 a206 := Tryz.isAgg244
 z206 := Tryz.sizeOf244
 v206 := Tryz.zeroValue244
 t208 := Tryz.underlying246
 a208 := Tryz.isAgg246
 z208 := Tryz.sizeOf246
 v208 := Tryz.zeroValue246
 g3 := by kernel_rfl
 g4 := by kernel_rfl
 g13 := by kernel_rfl }
theorem Builder_Extra_158 : Builder.Extra Tryz.prog lays158_ren := {
 sizeBuilder := by kernel_rfl
 liesBuilder := by kernel_rfl
 t5 := Tryz.underlying5
 a5 := Tryz.isAgg5
 z5 := Tryz.sizeOf5
 v5 := Tryz.zeroValue5
 infoByte := by kernel_rfl
 cellsByte := by kernel_rfl
 sizeByte := by kernel_rfl
 neB5 := by decide }
def lays159_ren : Go.Shelf.Ren := ⟨fun | 159 => 156 | 165 => 164 | 166 => 56 | 167 => 60 | 169 => 31 | 230 => 165 | 204 => 166 | 240 => 82 | 241 => 172 | 197 => 173 | 118 => 174 | 168 => 175 | 270 => 176 | 262 => 177 | 276 => 108 | 277 => 181 | 260 => 182 | 242 => 183 | 313 => 184 | 278 => 188 | 274 => 189 | 275 => 190 | n => n, fun | 9 => 9 | 4 => 4 | 3 => 3 | 5 => 5 | 72 => 92 | 0 => 0 | 76 => 121 | 75 => 120 | 107 => 222 | 70 => 89 | 20 => 20 | 37 => 90 | 127 => 126 | 21 => 21 | 105 => 224 | 164 => 165 | 162 => 234 | 203 => 232 | 119 => 235 | 46 => 133 | 139 => 238 | 138 => 237 | 51 => 158 | 160 => 239 | 208 => 246 | 206 => 244 | 80 => 96 | n => n, fun | 13 => 6 | 3 => 7 | 4 => 8 | n => n⟩
theorem lays159 : Go.Proofs.Lays.n159 Tryz.prog lays159_ren := {
 mixed := by kernel_rfl
 f118 := Tryz.func174.trans (congrArg some (by kernel_rfl))
 f159 := Tryz.func156.trans (congrArg some (by kernel_rfl))
 f165 := Tryz.func164.trans (congrArg some (by kernel_rfl))
 f166 := Tryz.func56.trans (congrArg some (by kernel_rfl))
 f167 := Tryz.func60.trans (congrArg some (by kernel_rfl))
 f168 := Tryz.func175.trans (congrArg some (by kernel_rfl))
 f169 := Tryz.func31.trans (congrArg some (by kernel_rfl))
 f197 := Tryz.func173.trans (congrArg some (by kernel_rfl))
 f204 := Tryz.func166.trans (congrArg some (by kernel_rfl))
 f230 := Tryz.func165.trans (congrArg some (by kernel_rfl))
 f240 := Tryz.func82.trans (congrArg some (by kernel_rfl))
 f241 := Tryz.func172.trans (congrArg some (by kernel_rfl))
 f242 := Tryz.func183.trans (congrArg some (by kernel_rfl))
 f260 := Tryz.func182.trans (congrArg some (by kernel_rfl))
 f262 := Tryz.func177.trans (congrArg some (by kernel_rfl))
 f270 := Tryz.func176.trans (congrArg some (by kernel_rfl))
 f274 := Tryz.func189.trans (congrArg some (by kernel_rfl))
 f275 := Tryz.func190.trans (congrArg some (by kernel_rfl))
 f276 := Tryz.func108.trans (congrArg some (by kernel_rfl))
 f277 := Tryz.func181.trans (congrArg some (by kernel_rfl))
 f278 := Tryz.func188.trans (congrArg some (by kernel_rfl))
 f313 := Tryz.func184.trans (congrArg some (by kernel_rfl))
 t0 := Tryz.underlying0
 a0 := Tryz.isAgg0
 z0 := Tryz.sizeOf0
 v0 := Tryz.zeroValue0
 t3 := Tryz.underlying3
 a3 := Tryz.isAgg3
 z3 := Tryz.sizeOf3
 v3 := Tryz.zeroValue3
 t4 := Tryz.underlying4
 a4 := Tryz.isAgg4
 z4 := Tryz.sizeOf4
 v4 := Tryz.zeroValue4
 t5 := Tryz.underlying5
 a5 := Tryz.isAgg5
 z5 := Tryz.sizeOf5
 v5 := Tryz.zeroValue5
 t9 := Tryz.underlying9
 a9 := Tryz.isAgg9
 z9 := Tryz.sizeOf9
 v9 := Tryz.zeroValue9
 t20 := Tryz.underlying20
 a20 := Tryz.isAgg20
 z20 := Tryz.sizeOf20
 v20 := Tryz.zeroValue20
 t21 := Tryz.underlying21
 a21 := Tryz.isAgg21
 z21 := Tryz.sizeOf21
 v21 := Tryz.zeroValue21
 t37 := Tryz.underlying90
 a37 := Tryz.isAgg90
 z37 := Tryz.sizeOf90
 v37 := Tryz.zeroValue90
 t46 := Tryz.underlying133
 a46 := Tryz.isAgg133
 z46 := Tryz.sizeOf133
 v46 := Tryz.zeroValue133
 t51 := Tryz.underlying158
 a51 := Tryz.isAgg158
 z51 := Tryz.sizeOf158
 v51 := Tryz.zeroValue158
 t70 := Tryz.underlying89
 a70 := Tryz.isAgg89
 z70 := Tryz.sizeOf89
 v70 := Tryz.zeroValue89
 t72 := Tryz.underlying92
 a72 := Tryz.isAgg92
 z72 := Tryz.sizeOf92
 v72 := Tryz.zeroValue92
 t75 := Tryz.underlying120
 a75 := Tryz.isAgg120
 z75 := Tryz.sizeOf120
 v75 := Tryz.zeroValue120
 t76 := Tryz.underlying121
 a76 := Tryz.isAgg121
 z76 := Tryz.sizeOf121
 v76 := Tryz.zeroValue121
 t105 := Tryz.underlying224
 a105 := Tryz.isAgg224
 z105 := Tryz.sizeOf224
 v105 := Tryz.zeroValue224
 t107 := Tryz.underlying222
 a107 := Tryz.isAgg222
 z107 := Tryz.sizeOf222
 v107 := Tryz.zeroValue222
 t119 := Tryz.underlying235
 a119 := Tryz.isAgg235
 z119 := Tryz.sizeOf235
 t127 := Tryz.underlying126
 a127 := Tryz.isAgg126
 z127 := Tryz.sizeOf126
 v127 := Tryz.zeroValue126
 t138 := Tryz.underlying237
 a138 := Tryz.isAgg237
 z138 := Tryz.sizeOf237
 v138 := Tryz.zeroValue237
 t139 := Tryz.underlying238
 a139 := Tryz.isAgg238
 z139 := Tryz.sizeOf238
 v139 := Tryz.zeroValue238
 t160 := Tryz.underlying239
 a160 := Tryz.isAgg239
 z160 := Tryz.sizeOf239
 v160 := Tryz.zeroValue239
 t162 := Tryz.underlying234
 a162 := Tryz.isAgg234
 z162 := Tryz.sizeOf234
 v162 := Tryz.zeroValue234
 t164 := Tryz.underlying165
 a164 := Tryz.isAgg165
 z164 := Tryz.sizeOf165
 v164 := Tryz.zeroValue165
 t203 := Tryz.underlying232
 a203 := Tryz.isAgg232
 z203 := Tryz.sizeOf232
 v203 := Tryz.zeroValue232
 t206 := Tryz.underlying244
 a206 := Tryz.isAgg244
 z206 := Tryz.sizeOf244
 v206 := Tryz.zeroValue244
 t208 := Tryz.underlying246
 a208 := Tryz.isAgg246
 z208 := Tryz.sizeOf246
 v208 := Tryz.zeroValue246
 g3 := by kernel_rfl
 g4 := by kernel_rfl
 g13 := by kernel_rfl }
theorem Builder_Extra_159 : Builder.Extra Tryz.prog lays159_ren := {
 sizeBuilder := by kernel_rfl
 liesBuilder := by kernel_rfl
 t5 := Tryz.underlying5
 a5 := Tryz.isAgg5
 z5 := Tryz.sizeOf5
 v5 := Tryz.zeroValue5
 infoByte := by kernel_rfl
 cellsByte := by kernel_rfl
 sizeByte := by kernel_rfl
 neB5 := by decide }
def lays156_ren : Go.Shelf.Ren := ⟨fun | 156 => 160 | 165 => 164 | 166 => 56 | 169 => 31 | 240 => 82 | 241 => 172 | 276 => 108 | 277 => 181 | n => n, fun | 31 => 35 | 9 => 9 | 3 => 3 | 4 => 4 | 0 => 0 | 20 => 20 | 72 => 92 | 76 => 121 | 70 => 89 | 37 => 90 | 75 => 120 | 127 => 126 | 164 => 165 | 5 => 5 | 80 => 96 | n => n, fun | n => n⟩
theorem lays156 : Go.Proofs.Lays.n156 Tryz.prog lays156_ren := {
 mixed := by kernel_rfl
 f156 := Tryz.func160.trans (congrArg some (by kernel_rfl))
 f165 := Tryz.func164.trans (congrArg some (by kernel_rfl))
 f166 := Tryz.func56.trans (congrArg some (by kernel_rfl))
 f169 := Tryz.func31.trans (congrArg some (by kernel_rfl))
 f240 := Tryz.func82.trans (congrArg some (by kernel_rfl))
 f241 := Tryz.func172.trans (congrArg some (by kernel_rfl))
 f276 := Tryz.func108.trans (congrArg some (by kernel_rfl))
 f277 := Tryz.func181.trans (congrArg some (by kernel_rfl))
 t0 := Tryz.underlying0
 a0 := Tryz.isAgg0
 z0 := Tryz.sizeOf0
 v0 := Tryz.zeroValue0
 t3 := Tryz.underlying3
 a3 := Tryz.isAgg3
 z3 := Tryz.sizeOf3
 v3 := Tryz.zeroValue3
 t4 := Tryz.underlying4
 a4 := Tryz.isAgg4
 z4 := Tryz.sizeOf4
 v4 := Tryz.zeroValue4
 t9 := Tryz.underlying9
 a9 := Tryz.isAgg9
 z9 := Tryz.sizeOf9
 v9 := Tryz.zeroValue9
 t20 := Tryz.underlying20
 a20 := Tryz.isAgg20
 z20 := Tryz.sizeOf20
 v20 := Tryz.zeroValue20
 t31 := Tryz.underlying35
 a31 := Tryz.isAgg35
 z31 := Tryz.sizeOf35
 v31 := Tryz.zeroValue35
 t37 := Tryz.underlying90
 a37 := Tryz.isAgg90
 z37 := Tryz.sizeOf90
 v37 := Tryz.zeroValue90
 t70 := Tryz.underlying89
 a70 := Tryz.isAgg89
 z70 := Tryz.sizeOf89
 v70 := Tryz.zeroValue89
 t72 := Tryz.underlying92
 a72 := Tryz.isAgg92
 z72 := Tryz.sizeOf92
 v72 := Tryz.zeroValue92
 t75 := Tryz.underlying120
 a75 := Tryz.isAgg120
 z75 := Tryz.sizeOf120
 v75 := Tryz.zeroValue120
 t76 := Tryz.underlying121
 a76 := Tryz.isAgg121
 z76 := Tryz.sizeOf121
 v76 := Tryz.zeroValue121
 t127 := Tryz.underlying126
 a127 := Tryz.isAgg126
 z127 := Tryz.sizeOf126
 v127 := Tryz.zeroValue126
 t164 := Tryz.underlying165
 a164 := Tryz.isAgg165
 z164 := Tryz.sizeOf165
 v164 := Tryz.zeroValue165 }
theorem Builder_Extra_156 : Builder.Extra Tryz.prog lays156_ren := {
 sizeBuilder := by kernel_rfl
 liesBuilder := by kernel_rfl
 t5 := Tryz.underlying5
 a5 := Tryz.isAgg5
 z5 := Tryz.sizeOf5
 v5 := Tryz.zeroValue5
 infoByte := by kernel_rfl
 cellsByte := by kernel_rfl
 sizeByte := by kernel_rfl
 neB5 := by decide }
def lays147_ren : Go.Shelf.Ren := ⟨fun | 147 => 154 | 221 => 161 | 268 => 169 | 138 => 170 | 143 => 171 | 195 => 178 | 197 => 173 | 218 => 179 | 219 => 180 | 260 => 182 | 217 => 185 | 225 => 186 | 224 => 144 | 267 => 187 | 266 => 191 | 314 => 192 | n => n, fun | 9 => 9 | 3 => 3 | 31 => 35 | 4 => 4 | 0 => 0 | 105 => 224 | 21 => 21 | 5 => 5 | 46 => 133 | 119 => 235 | 139 => 238 | 138 => 237 | 146 => 213 | 51 => 158 | n => n, fun | 1 => 1 | 3 => 7 | 4 => 8 | n => n⟩
theorem lays147 : Go.Proofs.Lays.n147 Tryz.prog lays147_ren := {
 mixed := by kernel_rfl
 f138 := Tryz.func170.trans (congrArg some (by kernel_rfl))
 f143 := Tryz.func171.trans (congrArg some (by kernel_rfl))
 f147 := Tryz.func154.trans (congrArg some (by kernel_rfl))
 f195 := Tryz.func178.trans (congrArg some (by kernel_rfl))
 f197 := Tryz.func173.trans (congrArg some (by kernel_rfl))
 f217 := Tryz.func185.trans (congrArg some (by kernel_rfl))
 f218 := Tryz.func179.trans (congrArg some (by kernel_rfl))
 f219 := Tryz.func180.trans (congrArg some (by kernel_rfl))
 f221 := Tryz.func161.trans (congrArg some (by kernel_rfl))
 f224 := Tryz.func144.trans (congrArg some (by kernel_rfl))
 f225 := Tryz.func186.trans (congrArg some (by kernel_rfl))
 f260 := Tryz.func182.trans (congrArg some (by kernel_rfl))
 f266 := Tryz.func191.trans (congrArg some (by kernel_rfl))
 f267 := Tryz.func187.trans (congrArg some (by kernel_rfl))
 f268 := Tryz.func169.trans (congrArg some (by kernel_rfl))
 f314 := Tryz.func192.trans (congrArg some (by kernel_rfl))
 t0 := Tryz.underlying0
 a0 := Tryz.isAgg0
 z0 := Tryz.sizeOf0
 v0 := Tryz.zeroValue0
 t3 := Tryz.underlying3
 a3 := Tryz.isAgg3
 z3 := Tryz.sizeOf3
 v3 := Tryz.zeroValue3
 t4 := Tryz.underlying4
 a4 := Tryz.isAgg4
 z4 := Tryz.sizeOf4
 v4 := Tryz.zeroValue4
 t5 := Tryz.underlying5
 a5 := Tryz.isAgg5
 z5 := Tryz.sizeOf5
 v5 := Tryz.zeroValue5
 t9 := Tryz.underlying9
 a9 := Tryz.isAgg9
 z9 := Tryz.sizeOf9
 v9 := Tryz.zeroValue9
 t21 := Tryz.underlying21
 a21 := Tryz.isAgg21
 z21 := Tryz.sizeOf21
 v21 := Tryz.zeroValue21
 t31 := Tryz.underlying35
 a31 := Tryz.isAgg35
 z31 := Tryz.sizeOf35
 v31 := Tryz.zeroValue35
 t46 := Tryz.underlying133
 a46 := Tryz.isAgg133
 z46 := Tryz.sizeOf133
 v46 := Tryz.zeroValue133
 t51 := Tryz.underlying158
 a51 := Tryz.isAgg158
 z51 := Tryz.sizeOf158
 v51 := Tryz.zeroValue158
 t105 := Tryz.underlying224
 a105 := Tryz.isAgg224
 z105 := Tryz.sizeOf224
 v105 := Tryz.zeroValue224
 t119 := Tryz.underlying235
 a119 := Tryz.isAgg235
 z119 := Tryz.sizeOf235
 t138 := Tryz.underlying237
 a138 := Tryz.isAgg237
 z138 := Tryz.sizeOf237
 v138 := Tryz.zeroValue237
 t139 := Tryz.underlying238
 a139 := Tryz.isAgg238
 z139 := Tryz.sizeOf238
 v139 := Tryz.zeroValue238
 t146 := Tryz.underlying213
 a146 := Tryz.isAgg213
 z146 := Tryz.sizeOf213
 v146 := Tryz.zeroValue213
 g1 := by kernel_rfl
 g3 := by kernel_rfl
 g4 := by kernel_rfl }
def lays185_ren : Go.Shelf.Ren := ⟨fun | 185 => 132 | 187 => 141 | 115 => 142 | 253 => 143 | 224 => 144 | 254 => 145 | 255 => 152 | 291 => 153 | n => n, fun | 37 => 90 | 3 => 3 | 4 => 4 | 0 => 0 | 5 => 5 | 46 => 133 | 9 => 9 | 146 => 213 | 51 => 158 | n => n, fun | 1 => 1 | n => n⟩
theorem lays185 : Go.Proofs.Lays.n185 Tryz.prog lays185_ren := {
 mixed := by kernel_rfl
 f115 := Tryz.func142.trans (congrArg some (by kernel_rfl))
 f185 := Tryz.func132.trans (congrArg some (by kernel_rfl))
 f187 := Tryz.func141.trans (congrArg some (by kernel_rfl))
 f224 := Tryz.func144.trans (congrArg some (by kernel_rfl))
 f253 := Tryz.func143.trans (congrArg some (by kernel_rfl))
 f254 := Tryz.func145.trans (congrArg some (by kernel_rfl))
 f255 := Tryz.func152.trans (congrArg some (by kernel_rfl))
 f291 := Tryz.func153.trans (congrArg some (by kernel_rfl))
 t0 := Tryz.underlying0
 a0 := Tryz.isAgg0
 z0 := Tryz.sizeOf0
 v0 := Tryz.zeroValue0
 t3 := Tryz.underlying3
 a3 := Tryz.isAgg3
 z3 := Tryz.sizeOf3
 v3 := Tryz.zeroValue3
 t4 := Tryz.underlying4
 a4 := Tryz.isAgg4
 z4 := Tryz.sizeOf4
 v4 := Tryz.zeroValue4
 t5 := Tryz.underlying5
 a5 := Tryz.isAgg5
 z5 := Tryz.sizeOf5
 v5 := Tryz.zeroValue5
 t9 := Tryz.underlying9
 a9 := Tryz.isAgg9
 z9 := Tryz.sizeOf9
 v9 := Tryz.zeroValue9
 t37 := Tryz.underlying90
 a37 := Tryz.isAgg90
 z37 := Tryz.sizeOf90
 v37 := Tryz.zeroValue90
 t46 := Tryz.underlying133
 a46 := Tryz.isAgg133
 z46 := Tryz.sizeOf133
 v46 := Tryz.zeroValue133
 t51 := Tryz.underlying158
 a51 := Tryz.isAgg158
 z51 := Tryz.sizeOf158
 v51 := Tryz.zeroValue158
 t146 := Tryz.underlying213
 a146 := Tryz.isAgg213
 z146 := Tryz.sizeOf213
 v146 := Tryz.zeroValue213
 g1 := by kernel_rfl }
def laysSlT4_ren : Go.Shelf.Ren := ⟨fun | 4 => 124 | 5 => 132 | 6 => 141 | 7 => 142 | 8 => 143 | 9 => 144 | 10 => 145 | 11 => 152 | 12 => 153 | n => n, fun | 22 => 90 | 4 => 4 | 3 => 3 | 0 => 0 | 5 => 5 | 29 => 133 | 9 => 9 | 31 => 213 | 30 => 158 | n => n, fun | 0 => 1 | n => n⟩
theorem laysSlT4 : Go.Proofs.SlLaysT.n4 Tryz.prog laysSlT4_ren := {
 mixed := by kernel_rfl
 f4 := Tryz.func124.trans (congrArg some (by kernel_rfl))
 f5 := Tryz.func132.trans (congrArg some (by kernel_rfl))
 f6 := Tryz.func141.trans (congrArg some (by kernel_rfl))
 f7 := Tryz.func142.trans (congrArg some (by kernel_rfl))
 f8 := Tryz.func143.trans (congrArg some (by kernel_rfl))
 f9 := Tryz.func144.trans (congrArg some (by kernel_rfl))
 f10 := Tryz.func145.trans (congrArg some (by kernel_rfl))
 f11 := Tryz.func152.trans (congrArg some (by kernel_rfl))
 f12 := Tryz.func153.trans (congrArg some (by kernel_rfl))
 t0 := Tryz.underlying0
 a0 := Tryz.isAgg0
 z0 := Tryz.sizeOf0
 v0 := Tryz.zeroValue0
 t3 := Tryz.underlying3
 a3 := Tryz.isAgg3
 z3 := Tryz.sizeOf3
 v3 := Tryz.zeroValue3
 t4 := Tryz.underlying4
 a4 := Tryz.isAgg4
 z4 := Tryz.sizeOf4
 v4 := Tryz.zeroValue4
 t5 := Tryz.underlying5
 a5 := Tryz.isAgg5
 z5 := Tryz.sizeOf5
 v5 := Tryz.zeroValue5
 t9 := Tryz.underlying9
 a9 := Tryz.isAgg9
 z9 := Tryz.sizeOf9
 v9 := Tryz.zeroValue9
 t22 := Tryz.underlying90
 a22 := Tryz.isAgg90
 z22 := Tryz.sizeOf90
 v22 := Tryz.zeroValue90
 t29 := Tryz.underlying133
 a29 := Tryz.isAgg133
 z29 := Tryz.sizeOf133
 v29 := Tryz.zeroValue133
 t30 := Tryz.underlying158
 a30 := Tryz.isAgg158
 z30 := Tryz.sizeOf158
 v30 := Tryz.zeroValue158
 t31 := Tryz.underlying213
 a31 := Tryz.isAgg213
 z31 := Tryz.sizeOf213
 v31 := Tryz.zeroValue213
 g0 := by kernel_rfl }
end Go.Proofs.YtgnjjlgmlokhmaaGreatDoor
namespace Go.Proofs.YtgnjjlgmlokhmaaGreatDoor
open Go.RowKit

def nc (x : D.Tg) : Array Value := (bys x.l).toArray
theorem nc_size (x : D.Tg) : (nc x).size = 10 := by simp [nc, bys_len, x.len]
theorem bys_inj {l k : List Nat} (h : bys l = bys k) : l = k := by
 induction l generalizing k with
 | nil => cases k with
  | nil => rfl
  | cons b k => simp [bys] at h
 | cons a l ih => cases k with
  | nil => simp [bys] at h
  | cons b k =>
   simp only [bys, List.map_cons, List.cons.injEq, Value.int.injEq, true_and] at h
   obtain ⟨h1, h2⟩ := h
   rw [ih h2, show a = b by omega]
theorem nc_inj {x y : D.Tg} (h : nc x = nc y) : x = y := D.Tg.eq (bys_inj (by simpa [nc] using h))
theorem nc_one (x : D.Tg) : (nc x).all (·.oneCell') = true := all_oneCell_toArray (bys_one x.l)
theorem nc_zero : nc D.zero = #[.int .u8 0, .int .u8 0, .int .u8 0, .int .u8 0, .int .u8 0, .int .u8 0, .int .u8 0, .int .u8 0, .int .u8 0, .int .u8 0] := rfl

def At (w : World) (a : Addr) (x : D.Tg) : Prop := ∀ j u, (bys x.l)[j]? = some u -> w.cell? (a.add j) = some u
theorem At.one {w : World} {a : Addr} {x y : D.Tg} (h : At w a x) (k : At w a y) : x = y := by
 refine D.Tg.eq (bys_inj (List.ext_getElem? fun j => ?_))
 by_cases hj : j < 10
 ·have e1 : (bys x.l)[j]? = some ((bys x.l)[j]'(by rw [bys_len, x.len]; exact hj)) := List.getElem?_eq_getElem _
  have e2 : (bys y.l)[j]? = some ((bys y.l)[j]'(by rw [bys_len, y.len]; exact hj)) := List.getElem?_eq_getElem _
  have := (h j _ e1).symm.trans (k j _ e2)
  rw [e1, e2, this]
 ·rw [List.getElem?_eq_none (by rw [bys_len, x.len]; omega), List.getElem?_eq_none (by rw [bys_len, y.len]; omega)]
open Classical in
noncomputable def rd (w : World) (a : Addr) : Option D.Tg := if h : ∃ x, At w a x then some (Classical.choose h) else none
theorem rd_of {w : World} {a : Addr} {x : D.Tg} (h : At w a x) : rd w a = some x := by
 have hx : ∃ x, At w a x := ⟨x, h⟩
 rw [rd, dif_pos hx, (Classical.choose_spec hx).one h]
theorem at_of {w : World} {a : Addr} {x : D.Tg} (h : rd w a = some x) : At w a x := by
 unfold rd at h
 split at h
 ·rename_i hx
  injection h with h
  rw [<- h]
  exact Classical.choose_spec hx
 ·cases h
theorem At.tow {w w' : World} {a : Addr} {x : D.Tg} (h : At w a x) (hk : w'.heap[a.block]? = w.heap[a.block]?) : At w' a x := fun j u hu =>
 (World.cell?_of_block (w := w) (by rw [block_of_add]; exact hk)).trans (h j u hu)
theorem rd_to {w w' : World} {a : Addr} (hk : w'.heap[a.block]? = w.heap[a.block]?) : rd w' a = rd w a := by
 by_cases h : ∃ x, At w a x
 ·obtain ⟨x, hx⟩ := h
  rw [rd_of hx, rd_of (hx.tow hk)]
 ·have h' : ¬ ∃ x, At w' a x := fun ⟨x, hx⟩ => h ⟨x, hx.tow hk.symm⟩
  rw [rd, rd, dif_neg h, dif_neg h']
theorem rd_lt {w : World} {a : Addr} {x : D.Tg} (h : rd w a = some x) : a.block < w.heap.size := by
 have e1 : (bys x.l)[0]? = some ((bys x.l)[0]'(by rw [bys_len, x.len]; decide)) := List.getElem?_eq_getElem _
 have := World.block_lt_of_cell? w _ (at_of h 0 _ e1)
 rwa [block_of_add] at this
theorem rd_on {w w' : World} {a : Addr} {x : D.Tg} (h : rd w a = some x) (hb : Below w.heap.size w w') : rd w' a = some x := (rd_to (hb.block _ (rd_lt h))).trans h
theorem rd_blk {w : World} {g : Nat} {t : TypeId} {x : D.Tg} (h : Blk w g t (nc x)) : rd w ⟨g, 0, none⟩ = some x := rd_of fun j u hu => by
 rw [World.news_of_block h.out j u]
 simpa [nc] using hu
theorem rd_new (w : World) (n : Nat) (t : TypeId) (x : D.Tg) (h : n = w.heap.size) : rd (w.alloc (.cells (nc x) t)) ⟨n, 0, none⟩ = some x := by
 subst h
 exact rd_blk (Blk.new w t (nc x))
theorem rd_old (w : World) (a : Addr) (o : Obj) (h : a.block < w.heap.size) : rd (w.alloc o) a = rd w a := rd_to (Below.heap_alloc w o _ h)
theorem rd_drew (w : World) (a : Addr) : rd w.drew a = rd w a := rd_to rfl
theorem rd_drewN (w : World) (a : Addr) (n : Nat) : rd (w.drewN n) a = rd w a := rd_to rfl
noncomputable def ld (t : TypeId) (v : Value) : Sem Value := Instr.loadAt t v
noncomputable def bad (t : TypeId) (a : Addr) (w : World) : Result Value := (Instr.loadAt t (.pointer (some a))).run Tryz.prog w
theorem ld_a (v : Value) : Instr.loadAt 61 v = ld 61 v := rfl
theorem ld_n (v : Value) : Instr.loadAt 61 v = ld 61 v := rfl
theorem run_load {w : World} {a : Addr} {x : D.Tg} (t : TypeId) (ht : t = 61 ∨ t = 61) (h : At w a x) : (Instr.loadAt t (.pointer (some a))).run Tryz.prog w = .ok (.agg (nc x)) w := by
 have hl := run_loadCells_list (P := Tryz.prog) w a (bys x.l) h
 rw [bys_len, x.len] at hl
 rcases ht with rfl | rfl
 ·simp only [Instr.loadAt, Instr.sureAddr, Sem.run_bind, Sem.run_pure, Result.andThen_ok, loadVar, Tryz.isAgg61, Tryz.sizeOf61, if_true, hl]
  rfl
 ·simp only [Instr.loadAt, Instr.sureAddr, Sem.run_bind, Sem.run_pure, Result.andThen_ok, loadVar, Tryz.isAgg61, Tryz.sizeOf61, if_true, hl]
  rfl
set_option maxRecDepth 100000 in
theorem run_ld (w : World) (a : Addr) (t : TypeId) (ht : t = 61 ∨ t = 61) : (ld t (.pointer (some a))).run Tryz.prog w = (rd w a).elim (bad t a w) fun x => .ok (.agg (nc x)) w := by
 cases h : rd w a with
 | none => rfl
 | some x => exact run_load t ht (at_of h)
theorem run_ld_a (w : World) (a : Addr) : (ld 61 (.pointer (some a))).run Tryz.prog w = (rd w a).elim (bad 61 a w) fun x => .ok (.agg (nc x)) w := run_ld w a _ (.inl rfl)
theorem run_ld_n (w : World) (a : Addr) : (ld 61 (.pointer (some a))).run Tryz.prog w = (rd w a).elim (bad 61 a w) fun x => .ok (.agg (nc x)) w := run_ld w a _ (.inr rfl)

noncomputable def st (t : TypeId) (p v : Value) : Sem Unit := Instr.storeAt t p v
theorem st_a (p v : Value) : Instr.storeAt 61 p v = st 61 p v := rfl
theorem st_n (p v : Value) : Instr.storeAt 61 p v = st 61 p v := rfl
theorem run_st_n (w : World) (n : Nat) (x : D.Tg) (h : n = w.heap.size) :
  (st 61 (.pointer (some ⟨n, 0, none⟩)) (.agg (nc x))).run Tryz.prog (w.alloc (.cells #[.int .u8 0, .int .u8 0, .int .u8 0, .int .u8 0, .int .u8 0, .int .u8 0, .int .u8 0, .int .u8 0, .int .u8 0, .int .u8 0] 61)) = .ok () (w.alloc (.cells (nc x) 61)) := by
 subst h
 exact run_storeAt_new (P := Tryz.prog) w 61 _ (nc x) (by rw [nc_size]; kernel_rfl) (by rw [nc_size]; rfl) (nc_one x)

noncomputable def eq10 (t : TypeId) (u v : Value) : Sem Value := binOp .eql t u v
noncomputable def ne10 (t : TypeId) (u v : Value) : Sem Value := binOp .neq t u v
theorem eq_a (u v : Value) : binOp .eql 61 u v = eq10 61 u v := rfl
theorem eq_n (u v : Value) : binOp .eql 61 u v = eq10 61 u v := rfl
theorem ne_a (u v : Value) : binOp .neq 61 u v = ne10 61 u v := rfl
theorem ne_n (u v : Value) : binOp .neq 61 u v = ne10 61 u v := rfl
def sm (x y : D.Tg) : Bool := decide (x = y)

theorem mapM_all {α β : Type} {g : α -> Option β} {h : α -> β} : ∀ l : List α, (∀ a ∈ l, g a = some (h a)) -> l.mapM g = some (l.map h)
 | [], _ => rfl
 | a :: l, hl => by
  rw [List.mapM_cons, hl a (by simp), mapM_all l fun b hb => hl b (by simp [hb])]
  rfl
theorem one_bys {l : List Nat} {i : Nat} (h : i < l.length) : ((bys l).drop i).take 1 = [.int .u8 ((l.getD i 0 : Nat) : Int)] := by
 apply List.ext_getElem?
 intro j
 cases j with
 | zero =>
  rw [List.getElem?_take_of_lt (by omega), List.getElem?_drop, Nat.add_zero]
  simp [bys, List.getElem?_eq_getElem h, List.getD]
 | succ j =>
  rw [List.getElem?_take_eq_none (by omega)]; rfl
theorem keyed_n : Tryz.prog.keyType 61 = true := by kernel_rfl
theorem keyed_a : Tryz.prog.keyType 61 = true := by kernel_rfl
theorem cells_u8 : Tryz.prog.cellsOf 5 = 1 := by kernel_rfl
theorem lits_arr (l : List Nat) (hl : ∀ b ∈ l, b < 256) (n : Nat) (hn : l.length = n) (t : TypeId) (d : Nat) (hu : Tryz.prog.underlying t = some (.array n 5)) (hc : Tryz.prog.cellsOf t = n) : Tryz.prog.keyLits (d + 2) t (bys l) = some ((List.range n).map fun i => [Lit.int .u8 ((l.getD i 0 : Nat) : Int)]).flatten := by
 have hm : (List.range n).mapM (fun i => Tryz.prog.keyLits (d + 1) 5 (((bys l).drop (i * Tryz.prog.cellsOf 5)).take (Tryz.prog.cellsOf 5))) = some ((List.range n).map fun i => [Lit.int .u8 ((l.getD i 0 : Nat) : Int)]) := by
  refine mapM_all _ fun i hi => ?_
  have hi' := List.mem_range.1 hi
  rw [cells_u8, Nat.mul_one, one_bys (by rw [hn]; exact hi')]
  have hb : l.getD i 0 < 256 := by
   rw [List.getD, List.getElem?_eq_getElem (by rw [hn]; exact hi')]
   exact hl _ (List.getElem_mem _)
  obtain ⟨b, hq⟩ : ∃ b, l.getD i 0 = b := ⟨_, rfl⟩
  rw [hq] at hb ⊢
  have hw : (Lit.int .u8 ((b : Nat) : Int)).wf = true := by
   simp [Lit.wf, IntKind.min, IntKind.max, IntKind.bits, IntKind.signed]
   omega
  unfold Program.keyLits
  rw [Tryz.underlying5]
  simp [hw]
 unfold Program.keyLits
 rw [hu]
 simp only [bys_len, hn, hc, if_true, hm, Option.map_some]
theorem key_lits_n (x : D.Tg) (d : Nat) : ∃ l, Tryz.prog.keyLits (d + 3) 61 (bys x.l) = some l := by
 have hl := x.len
 have c26 : Tryz.prog.cellsOf 58 = 3 := by kernel_rfl
 have c27 : Tryz.prog.cellsOf 59 = 4 := by kernel_rfl
 have c29 : Tryz.prog.cellsOf 61 = 10 := by kernel_rfl
 have h1 := lits_arr (x.l.take 3) (fun b hb => x.lt b (List.mem_of_mem_take hb)) 3 (by simp; omega) 58 d Tryz.underlying58 c26
 have h2 := lits_arr ((x.l.drop 3).take 4) (fun b hb => x.lt b (List.mem_of_mem_drop (List.mem_of_mem_take hb))) 4 (by simp; omega) 59 d Tryz.underlying59 c27
 have h3 := lits_arr (x.l.drop 7) (fun b hb => x.lt b (List.mem_of_mem_drop hb)) 3 (by simp; omega) 58 d Tryz.underlying58 c26
 have e3 : (bys (x.l.drop 7)).take 3 = bys (x.l.drop 7) := List.take_of_length_le (by rw [bys_len]; simp; omega)
 rw [<- e3] at h3
 simp only [<- bys_take, <- bys_drop] at h1 h2 h3
 unfold Program.keyLits
 rw [Tryz.underlying61]
 simp only [bys_len, hl, c29, c26, c27]
 simp [h1, h2, h3, c26, c27]
theorem key_lits (x : D.Tg) (t : TypeId) (d : Nat) (ht : t = 61 ∨ t = 61) : ∃ l, Tryz.prog.keyLits (d + 3) t (bys x.l) = some l := by
 rcases ht with rfl | rfl
 ·exact key_lits_n x d
 ·exact key_lits_n x d
theorem key_of (x : D.Tg) (t : TypeId) (ht : t = 61 ∨ t = 61) : ∃ l, keyOf Tryz.prog t (.agg (nc x)) = some l := by
 obtain ⟨l, hl⟩ := key_lits x t (Tryz.prog.types.size - 2) ht
 have hs : ((bys x.l).toArray.size == Tryz.prog.cellsOf t) = true := by
  rw [show (bys x.l).toArray.size = 10 from nc_size x]
  rcases ht with rfl | rfl
  ·rw [show Tryz.prog.cellsOf 61 = 10 by kernel_rfl]; rfl
  ·rw [show Tryz.prog.cellsOf 61 = 10 by kernel_rfl]; rfl
 refine ⟨.string (keyBytes l), ?_⟩
 unfold keyOf
 rcases ht with rfl | rfl
 ·rw [Tryz.underlying61]
  simp only [keyed_a, Value.formed, Tryz.underlying61, Value.cells, nc, Bool.true_and, hs, if_true]
  rw [show Tryz.prog.types.size + 1 = Tryz.prog.types.size - 2 + 3 by kernel_rfl, hl]
  rfl
 ·rw [Tryz.underlying61]
  simp only [keyed_n, Value.formed, Tryz.underlying61, Value.cells, nc, Bool.true_and, hs, if_true]
  rw [show Tryz.prog.types.size + 1 = Tryz.prog.types.size - 2 + 3 by kernel_rfl, hl]
  rfl
theorem laid_out : laidOutB Tryz.prog = true := by kernel_rfl
theorem law_n : Maps.Keyed Tryz.prog 61 := Maps.Keyed.of_law (deep_law_laid laid_out (m := 4) (by omega) (of_decide_eq_true (by kernel_rfl)) (by kernel_rfl) (by rw [Tryz.underlying61]))
theorem law_a : Maps.Keyed Tryz.prog 61 := Maps.Keyed.of_law (deep_law_laid laid_out (m := 4) (by omega) (of_decide_eq_true (by kernel_rfl)) (by kernel_rfl) (by rw [Tryz.underlying61]))
set_option maxRecDepth 100000 in
theorem run_equal (t : TypeId) (ht : t = 61 ∨ t = 61) (x y : D.Tg) (w : World) : (Op.equal t (.agg (nc x)) (.agg (nc y))).run Tryz.prog w = .ok (sm x y) w := by
 obtain ⟨lx, hx⟩ := key_of x t ht
 obtain ⟨ly, hy⟩ := key_of y t ht
 have hk : Tryz.prog.keyTypeAt 4 t = true := by rcases ht with rfl | rfl <;> kernel_rfl
 have hw : (match Tryz.prog.underlying t with | some (.array _ _) | some (.struct _) => true | _ => false) = true := by
  rcases ht with rfl | rfl
  ·rw [Tryz.underlying61]
  ·rw [Tryz.underlying61]
 have K : Maps.Keyed Tryz.prog t := by rcases ht with rfl | rfl; exact law_a; exact law_n
 obtain ⟨r, hr, hiff⟩ := run_equal_deep (P := Tryz.prog) w (m := 4) (by omega) hk hw hx hy
 rw [hr]
 congr 1
 have : (r = true) ↔ x = y := by
  rw [hiff]
  constructor
  ·intro e
   subst e
   have := K.inj hx hy
   injection this with this
   exact nc_inj this
  ·intro e
   subst e
   rw [hx] at hy
   injection hy
 unfold sm
 cases r
 ·symm; simpa using this
 ·symm; simpa using this
theorem run_eq (w : World) (t : TypeId) (ht : t = 61 ∨ t = 61) (x y : D.Tg) : (eq10 t (.agg (nc x)) (.agg (nc y))).run Tryz.prog w = .ok (.bool (sm x y)) w := by
 simp only [eq10, binOp]
 rw [Sem.run_bind, run_equal t ht]
 rfl
theorem run_ne (w : World) (t : TypeId) (ht : t = 61 ∨ t = 61) (x y : D.Tg) : (ne10 t (.agg (nc x)) (.agg (nc y))).run Tryz.prog w = .ok (.bool (!sm x y)) w := by
 simp only [ne10, binOp]
 rw [Sem.run_bind, run_equal t ht]
 rfl
theorem run_eq_a (w : World) (x y : D.Tg) : (eq10 61 (.agg (nc x)) (.agg (nc y))).run Tryz.prog w = .ok (.bool (sm x y)) w := run_eq w _ (.inl rfl) x y
theorem run_eq_n (w : World) (x y : D.Tg) : (eq10 61 (.agg (nc x)) (.agg (nc y))).run Tryz.prog w = .ok (.bool (sm x y)) w := run_eq w _ (.inr rfl) x y
theorem run_ne_a (w : World) (x y : D.Tg) : (ne10 61 (.agg (nc x)) (.agg (nc y))).run Tryz.prog w = .ok (.bool (!sm x y)) w := run_ne w _ (.inl rfl) x y
theorem run_ne_n (w : World) (x y : D.Tg) : (ne10 61 (.agg (nc x)) (.agg (nc y))).run Tryz.prog w = .ok (.bool (!sm x y)) w := run_ne w _ (.inr rfl) x y
end Go.Proofs.YtgnjjlgmlokhmaaGreatDoor
