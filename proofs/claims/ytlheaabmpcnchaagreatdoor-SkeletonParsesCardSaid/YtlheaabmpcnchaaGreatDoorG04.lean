/-
  What is printed is read as it was: messages, whole texts. No program is spoken of.
  The document's small functions on texts: bytes, words, blanks.
  The program's reader of texts: its state, the byte that comes, what is wrong, a byte that must come; a text's copy.
-/
import Derived.Test.YtlheaabmpcnchaaGreatDoorG03
import Derived.Test.YtlheaabmpcnchaaGreatDoorGow
import Derived.IntWalk
import Derived.BigQuiet
import Derived.Deep.QuietTactic
import Derived.Deep.DrawnRows
import Derived.Deep.CutRange
import Derived.Shelf.Pu.Clone
set_option linter.unusedVariables false
set_option linter.unusedSimpArgs false
namespace Go.Proofs.YtlheaabmpcnchaaGreatDoor
namespace D
theorem prN_text {t : List Nat} : prN (.mk 0 t [] [] []) = t := by simp [prN]
theorem prN_sign : prN (.mk 5 [] [] [] []) = [35] := by simp [prN]
section
variable {l : List Nat} {w : Bool} {p : Nat → Ot} {ch : Bool} {kids : Bool → List Nd → Prop}
/-- A part that is no text begins with a byte that is not plain. -/
theorem head_item {x : Nd} (hx : okNd ch kids w x) (h0 : x.k ≠ 0) : ∃ c r, prN x = c :: r ∧ plB w c = false := by
  obtain ⟨k, t, n, ws, ks⟩ := x
  rcases hx with ⟨e, _⟩ | ⟨e, hw⟩ | ⟨hk, ht, hws, hks, hn⟩ | ⟨hk, _⟩
  · exact absurd e h0
  · injection e with e1 e2 e3 e4 e5
    subst e1 e2 e3 e4 e5
    exact ⟨35, [], prN_sign, by subst hw; rfl⟩
  · simp only [Nd.k] at hk
    rcases hk with rfl | rfl
    · exact ⟨123, _, by simp [prN]; rfl, by cases w <;> rfl⟩
    · exact ⟨123, _, by simp [prN]; rfl, by cases w <;> rfl⟩
  · simp only [Nd.k] at hk
    rcases hk with rfl | rfl
    · exact ⟨123, _, by simp [prN]; rfl, by cases w <;> rfl⟩
    · exact ⟨123, _, by simp [prN]; rfl, by cases w <;> rfl⟩
theorem ne_nil {x : Nd} (hx : okNd ch kids w x) : prN x ≠ [] := by
  by_cases h0 : x.k = 0
  · obtain ⟨k, t, n, ws, ks⟩ := x
    rcases hx with ⟨e, e1, e2, e3, e4, _⟩ | ⟨e, _⟩ | ⟨hk, _⟩ | ⟨hk, _⟩
    · simp only [Nd.k, Nd.n, Nd.ws, Nd.ks, Nd.t] at e e1 e2 e3 e4
      subst e e1 e2 e3
      rw [prN_text]; exact e4
    · injection e with e1; simp [Nd.k, e1] at h0
    · omega
    · omega
  · obtain ⟨c, r, e, _⟩ := head_item hx h0
    rw [e]; simp
theorem len_le : ∀ {pt : Bool} {xs : List Nd}, okLs (okNd ch kids w) pt xs → xs.length ≤ (prL xs).length
  | pt, [], _ => by simp
  | pt, x :: xs, h => by
    have := len_le h.2.2
    have h1 := List.length_pos_iff.2 (ne_nil h.1)
    rw [prL]; simp; omega
theorem mes_eq {f i k : Nat} {acc acc' : List Nd} (hk : far (plB w) l i = k) (ha : (if i < k then acc ++ [.mk 0 (sub l i k) [] [] []] else acc) = acc') : mes l w p (f + 1) i acc =
    (if l[k]? = some 35 then mes l w p f (k + 1) (acc' ++ [.mk 5 [] [] [] []]) else if l[k]? ≠ some 123 then (⟨acc', k, 0⟩ : Ot) else if (p (k + 1)).e ≠ 0 then p (k + 1) else mes l w p f (p (k + 1)).a (acc' ++ [(p (k + 1)).l.headD .zero])) := by
  subst hk ha
  rw [mes]
end
end D
end Go.Proofs.YtlheaabmpcnchaaGreatDoor
set_option linter.unusedVariables false
set_option linter.unusedSimpArgs false
set_option maxRecDepth 100000
namespace Go.Proofs.YtlheaabmpcnchaaGreatDoor
open Go.RowKit
attribute [local go_sem ↓] Go.wp_at_zero Go.wp_at_succ

/-- The byte at a place, below 0: none. -/
def D.atI (l : List Nat) (i : Nat) : Int := match l[i]? with
  | some c => c
  | none => -1
theorem D.atI_some {l : List Nat} {i c : Nat} (h : l[i]? = some c) : D.atI l i = c := by unfold D.atI; rw [h]
theorem D.atI_none {l : List Nat} {i : Nat} (h : l.length ≤ i) : D.atI l i = -1 := by unfold D.atI; rw [List.getElem?_eq_none h]
theorem ns_get {s : ByteArray} {k : Nat} (h : k < s.size) : (D.ns s)[k]? = some s[k].toNat := by
  have h' : k < s.data.toList.length := by simpa using h
  simp only [D.ns, List.getElem?_map, List.getElem?_eq_getElem h', Option.map_some]
  rfl
theorem at_any (s : ByteArray) (i : Nat) (w : World) : Calls Tryz.prog 64 #[.string s, .int .i64 i] w fun e w' => e = .returned (.int .i64 (D.atI (D.ns s) i)) ∧ w = w' := by
  by_cases h : i < s.size
  · have hI : (i : Int) < s.size := by omega
    have hl := D.atI_some (ns_get h)
    have h256 : (s[i].toNat : Int) < 256 := by have := s[i].toNat_lt; omega
    rw [hl]
    clear hl
    go_enter Tryz.func64, Tryz.ntmps64
    go_wp2
    go_ret
    exact ⟨rfl, rfl⟩
  · have hI : (s.size : Int) ≤ i := by omega
    rw [D.atI_none (by rw [D.ns_len]; omega)]
    go_enter Tryz.func64, Tryz.ntmps64
    go_wp2
    go_ret
    exact ⟨rfl, rfl⟩
theorem skip_any (s : ByteArray) (i : Nat) (w : World) (hi : i ≤ s.size) (hs : s.size ≤ 1000000) : Calls Tryz.prog 99 #[.string s, .int .i64 i] w fun e w' => e = .returned (.int .i64 (D.far (· == 32) (D.ns s) i : Nat)) ∧ w = w' := by
  have cA := Lib.hid (fun k W => at_any s k W)
  have hlen := D.ns_len s
  obtain ⟨l, hl⟩ : ∃ l, D.ns s = l := ⟨_, rfl⟩
  rw [hl] at cA hlen ⊢
  clear hl
  go_enter Tryz.func99, Tryz.ntmps99
  go_wp2_with fail
  go_loopw [1] (fun a wr => ∃ k : Nat, k ≤ s.size ∧ a = .int .i64 k ∧ Kept (D.far (· == 32) l i = D.far (· == 32) l k) ∧ wr = w) (fun a _ => s.size - (intOf a).toNat)
  case atStart => exact ⟨i, hi, rfl, ⟨rfl⟩, rfl⟩
  case round =>
    obtain ⟨k, hk, rfl, HF, rfl⟩ := hrel
    have C := Lib.hid (cA.out k wr)
    clear cA
    by_cases hlt : k < s.size
    · obtain ⟨c, hc⟩ : ∃ c, l[k]? = some c := ⟨_, List.getElem?_eq_getElem (by omega)⟩
      rw [D.atI_some hc] at C
      by_cases h32 : c = 32
      · subst h32
        have HF' : Kept (D.far (· == 32) l i = D.far (· == 32) l (k + 1)) := ⟨HF.out.trans (D.far_step hc rfl)⟩
        clear HF hc
        go_wp2_with (go_at_call 64; (with_reducible refine C.out.mono ?_); rintro e w1 ⟨rfl, rfl⟩)
        go_roundw
        case rel => exact ⟨k + 1, by omega, by go_num, HF', trivial⟩
        case measure => simp [intOf]; omega
      · have HF' : Kept (D.far (· == 32) l i = k) := ⟨HF.out.trans (D.far_stop hc (by simpa using h32))⟩
        have t : ((c : Int) == 32) = false := by simp; omega
        clear HF hc
        go_wp2_with (go_at_call 64; (with_reducible refine C.out.mono ?_); rintro e w1 ⟨rfl, rfl⟩)
        go_ret
        exact ⟨ret_of (by rw [HF'.out]), rfl⟩
    · have HF' : Kept (D.far (· == 32) l i = k) := ⟨HF.out.trans (D.far_end (by omega))⟩
      rw [D.atI_none (by omega)] at C
      clear HF
      go_wp2_with (go_at_call 64; (with_reducible refine C.out.mono ?_); rintro e w1 ⟨rfl, rfl⟩)
      go_ret
      exact ⟨ret_of (by rw [HF'.out]), rfl⟩
/-- Which class a byte is of, as words see it. -/
theorem cls8 (c : Nat) : (c < 45 ∧ D.wdB c = false) ∨ (c = 45 ∧ D.wdB c = true) ∨ (c = 46 ∧ D.wdB c = true) ∨ (c = 47 ∧ D.wdB c = false) ∨ (48 ≤ c ∧ c ≤ 57 ∧ D.wdB c = true) ∨ (58 ≤ c ∧ c < 95 ∧ D.wdB c = false) ∨ (c = 95 ∧ D.wdB c = true) ∨ (c = 96 ∧ D.wdB c = false) ∨ (97 ≤ c ∧ c ≤ 122 ∧ D.wdB c = true) ∨ (122 < c ∧ D.wdB c = false) := by
  have key : D.wdB c = decide ((97 ≤ c ∧ c ≤ 122) ∨ (48 ≤ c ∧ c ≤ 57) ∨ c = 45 ∨ c = 95 ∨ c = 46) := by
    unfold D.wdB
    by_cases h1 : 97 ≤ c ∧ c ≤ 122 <;> by_cases h3 : 48 ≤ c ∧ c ≤ 57 <;> by_cases h5 : c = 45 <;> by_cases h6 : c = 95 <;> by_cases h7 : c = 46 <;> simp [*]
  rw [key]
  rcases (show c < 45 ∨ c = 45 ∨ c = 46 ∨ c = 47 ∨ (48 ≤ c ∧ c ≤ 57) ∨ (58 ≤ c ∧ c < 95) ∨ c = 95 ∨ c = 96 ∨ (97 ≤ c ∧ c ≤ 122) ∨ 122 < c by omega) with h | h | h | h | h | h | h | h | h | h
  · exact .inl ⟨h, decide_eq_false (by omega)⟩
  · exact .inr (.inl ⟨h, decide_eq_true (by omega)⟩)
  · exact .inr (.inr (.inl ⟨h, decide_eq_true (by omega)⟩))
  · exact .inr (.inr (.inr (.inl ⟨h, decide_eq_false (by omega)⟩)))
  · exact .inr (.inr (.inr (.inr (.inl ⟨h.1, h.2, decide_eq_true (by omega)⟩))))
  · exact .inr (.inr (.inr (.inr (.inr (.inl ⟨h.1, h.2, decide_eq_false (by omega)⟩)))))
  · exact .inr (.inr (.inr (.inr (.inr (.inr (.inl ⟨h, decide_eq_true (by omega)⟩))))))
  · exact .inr (.inr (.inr (.inr (.inr (.inr (.inr (.inl ⟨h, decide_eq_false (by omega)⟩)))))))
  · exact .inr (.inr (.inr (.inr (.inr (.inr (.inr (.inr (.inl ⟨h.1, h.2, decide_eq_true (by omega)⟩))))))))
  · exact .inr (.inr (.inr (.inr (.inr (.inr (.inr (.inr (.inr ⟨h, decide_eq_false (by omega)⟩))))))))
set_option maxHeartbeats 4000000 in
theorem run_any (s : ByteArray) (i : Nat) (w : World) (hi : i ≤ s.size) (hs : s.size ≤ 1000000) : Calls Tryz.prog 98 #[.string s, .int .i64 i] w fun e w' => e = .returned (.int .i64 (D.far D.wdB (D.ns s) i : Nat)) ∧ w = w' := by
  have hlen := D.ns_len s
  have hget := fun k (h : k < s.size) => ns_get h
  obtain ⟨l, hl⟩ : ∃ l, D.ns s = l := ⟨_, rfl⟩
  rw [hl] at hlen hget ⊢
  have HG := Lib.hid hget
  clear hl hget
  go_enter Tryz.func98, Tryz.ntmps98
  go_wp2_with fail
  go_loopw [1] (fun a wr => ∃ k : Nat, k ≤ s.size ∧ a = .int .i64 k ∧ Kept (D.far D.wdB l i = D.far D.wdB l k) ∧ wr = w) (fun a _ => s.size - (intOf a).toNat)
  case atStart => exact ⟨i, hi, rfl, ⟨rfl⟩, rfl⟩
  case round =>
    obtain ⟨k, hk, rfl, HF, rfl⟩ := hrel
    by_cases hlt : k < s.size
    · have hI : (k : Int) < s.size := by omega
      have hc := HG.out k hlt
      have hst := fun (h : D.wdB s[k].toNat = true) => HF.out.trans (D.far_step hc h)
      have hsp := fun (h : D.wdB s[k].toNat = false) => HF.out.trans (D.far_stop hc h)
      have ht := cls8 s[k].toNat
      have ST := Lib.hid hst
      have SP := Lib.hid hsp
      clear hst hsp hc HF HG
      rcases ht with ⟨h, hb⟩ | ⟨h, hb⟩ | ⟨h, hb⟩ | ⟨h, hb⟩ | ⟨h, h2, hb⟩ | ⟨h, h2, hb⟩ | ⟨h, hb⟩ | ⟨h, hb⟩ | ⟨h, h2, hb⟩ | ⟨h, hb⟩
      · have i0 : ((s[k].toNat : Int) < 97) := by omega
        have i1 : ((s[k].toNat : Int) < 48) := by omega
        have q45 : ((s[k].toNat : Int) == 45) = false := by simp; omega
        have q95 : ((s[k].toNat : Int) == 95) = false := by simp; omega
        have q46 : ((s[k].toNat : Int) == 46) = false := by simp; omega
        have HF' : Kept (D.far D.wdB l i = k) := ⟨SP.out hb⟩
        clear ST SP hb h
        go_wp2
        go_ret
        exact ⟨ret_of (by rw [HF'.out]), rfl⟩
      · have i0 : ((s[k].toNat : Int) < 97) := by omega
        have i1 : ((s[k].toNat : Int) < 48) := by omega
        have q45 : ((s[k].toNat : Int) == 45) = true := by simp; omega
        have HF' : Kept (D.far D.wdB l i = D.far D.wdB l (k + 1)) := ⟨ST.out hb⟩
        clear ST SP hb h
        go_wp2
        go_roundw
        case rel => exact ⟨k + 1, by omega, by go_num, HF', trivial⟩
        case measure => simp [intOf]; omega
      · have i0 : ((s[k].toNat : Int) < 97) := by omega
        have i1 : ((s[k].toNat : Int) < 48) := by omega
        have q45 : ((s[k].toNat : Int) == 45) = false := by simp; omega
        have q95 : ((s[k].toNat : Int) == 95) = false := by simp; omega
        have q46 : ((s[k].toNat : Int) == 46) = true := by simp; omega
        have HF' : Kept (D.far D.wdB l i = D.far D.wdB l (k + 1)) := ⟨ST.out hb⟩
        clear ST SP hb h
        go_wp2
        go_roundw
        case rel => exact ⟨k + 1, by omega, by go_num, HF', trivial⟩
        case measure => simp [intOf]; omega
      · have i0 : ((s[k].toNat : Int) < 97) := by omega
        have i1 : ((s[k].toNat : Int) < 48) := by omega
        have q45 : ((s[k].toNat : Int) == 45) = false := by simp; omega
        have q95 : ((s[k].toNat : Int) == 95) = false := by simp; omega
        have q46 : ((s[k].toNat : Int) == 46) = false := by simp; omega
        have HF' : Kept (D.far D.wdB l i = k) := ⟨SP.out hb⟩
        clear ST SP hb h
        go_wp2
        go_ret
        exact ⟨ret_of (by rw [HF'.out]), rfl⟩
      · have i0 : ((s[k].toNat : Int) < 97) := by omega
        have i1 : ((48 : Int) ≤ s[k].toNat) := by omega
        have i2 : ((s[k].toNat : Int) ≤ 57) := by omega
        have HF' : Kept (D.far D.wdB l i = D.far D.wdB l (k + 1)) := ⟨ST.out hb⟩
        clear ST SP hb h h2
        go_wp2
        go_roundw
        case rel => exact ⟨k + 1, by omega, by go_num, HF', trivial⟩
        case measure => simp [intOf]; omega
      · have i0 : ((s[k].toNat : Int) < 97) := by omega
        have i1 : ((48 : Int) ≤ s[k].toNat) := by omega
        have i2 : ((57 : Int) < s[k].toNat) := by omega
        have q45 : ((s[k].toNat : Int) == 45) = false := by simp; omega
        have q95 : ((s[k].toNat : Int) == 95) = false := by simp; omega
        have q46 : ((s[k].toNat : Int) == 46) = false := by simp; omega
        have HF' : Kept (D.far D.wdB l i = k) := ⟨SP.out hb⟩
        clear ST SP hb h h2
        go_wp2
        go_ret
        exact ⟨ret_of (by rw [HF'.out]), rfl⟩
      · have i0 : ((s[k].toNat : Int) < 97) := by omega
        have i1 : ((48 : Int) ≤ s[k].toNat) := by omega
        have i2 : ((57 : Int) < s[k].toNat) := by omega
        have q45 : ((s[k].toNat : Int) == 45) = false := by simp; omega
        have q95 : ((s[k].toNat : Int) == 95) = true := by simp; omega
        have HF' : Kept (D.far D.wdB l i = D.far D.wdB l (k + 1)) := ⟨ST.out hb⟩
        clear ST SP hb h
        go_wp2
        go_roundw
        case rel => exact ⟨k + 1, by omega, by go_num, HF', trivial⟩
        case measure => simp [intOf]; omega
      · have i0 : ((s[k].toNat : Int) < 97) := by omega
        have i1 : ((48 : Int) ≤ s[k].toNat) := by omega
        have i2 : ((57 : Int) < s[k].toNat) := by omega
        have q45 : ((s[k].toNat : Int) == 45) = false := by simp; omega
        have q95 : ((s[k].toNat : Int) == 95) = false := by simp; omega
        have q46 : ((s[k].toNat : Int) == 46) = false := by simp; omega
        have HF' : Kept (D.far D.wdB l i = k) := ⟨SP.out hb⟩
        clear ST SP hb h
        go_wp2
        go_ret
        exact ⟨ret_of (by rw [HF'.out]), rfl⟩
      · have i0 : ((97 : Int) ≤ s[k].toNat) := by omega
        have i1 : ((s[k].toNat : Int) ≤ 122) := by omega
        have HF' : Kept (D.far D.wdB l i = D.far D.wdB l (k + 1)) := ⟨ST.out hb⟩
        clear ST SP hb h h2
        go_wp2
        go_roundw
        case rel => exact ⟨k + 1, by omega, by go_num, HF', trivial⟩
        case measure => simp [intOf]; omega
      · have i0 : ((97 : Int) ≤ s[k].toNat) := by omega
        have i1 : ((122 : Int) < s[k].toNat) := by omega
        have i2 : ((48 : Int) ≤ s[k].toNat) := by omega
        have i3 : ((57 : Int) < s[k].toNat) := by omega
        have q45 : ((s[k].toNat : Int) == 45) = false := by simp; omega
        have q95 : ((s[k].toNat : Int) == 95) = false := by simp; omega
        have q46 : ((s[k].toNat : Int) == 46) = false := by simp; omega
        have HF' : Kept (D.far D.wdB l i = k) := ⟨SP.out hb⟩
        clear ST SP hb h
        go_wp2
        go_ret
        exact ⟨ret_of (by rw [HF'.out]), rfl⟩
    · have hI : (s.size : Int) ≤ k := by omega
      have HF' : Kept (D.far D.wdB l i = k) := ⟨HF.out.trans (D.far_end (by omega))⟩
      clear HF HG
      go_wp2
      go_ret
      exact ⟨ret_of (by rw [HF'.out]), rfl⟩
/-- May a byte stand in a text? -/
def D.plI (v : Bool) (c : Int) : Bool := decide (32 ≤ c ∧ c ≠ 127 ∧ c ≠ 123 ∧ c ≠ 125 ∧ (c ≠ 35 ∨ v = false))
theorem D.plI_some (v : Bool) (c : Nat) : D.plI v c = D.plB v c := by
  have h127 : ((c : Int) ≠ 127) ↔ c ≠ 127 := by omega
  have h123 : ((c : Int) ≠ 123) ↔ c ≠ 123 := by omega
  have h125 : ((c : Int) ≠ 125) ↔ c ≠ 125 := by omega
  have h35 : ((c : Int) ≠ 35) ↔ c ≠ 35 := by omega
  have h32 : ((32 : Int) ≤ c) ↔ 32 ≤ c := by omega
  unfold D.plI D.plB
  simp only [h127, h123, h125, h35, h32]
  cases v <;> by_cases h1 : 32 ≤ c <;> by_cases h2 : c = 127 <;> by_cases h3 : c = 123 <;> by_cases h4 : c = 125 <;> by_cases h5 : c = 35 <;> simp [*]
theorem D.plI_none (v : Bool) : D.plI v (-1) = false := by cases v <;> decide
set_option maxHeartbeats 4000000 in
theorem plain_any (c : Int) (v : Bool) (w : World) : Calls Tryz.prog 63 #[.int .i64 c, .bool v] w fun e w' => e = .returned (.bool (D.plI v c)) ∧ w = w' := by
  by_cases h1 : 32 ≤ c
  · by_cases h2 : c = 127
    · subst h2
      rw [show D.plI v 127 = false from decide_eq_false (by omega)]
      go_enter Tryz.func63, Tryz.ntmps63
      go_wp2
      go_ret
      exact ⟨rfl, rfl⟩
    · have q1 : (c != 127) = true := by simpa using h2
      by_cases h3 : c = 123
      · subst h3
        rw [show D.plI v 123 = false from decide_eq_false (by omega)]
        go_enter Tryz.func63, Tryz.ntmps63
        go_wp2
        go_ret
        exact ⟨rfl, rfl⟩
      · have q2 : (c != 123) = true := by simpa using h3
        by_cases h4 : c = 125
        · subst h4
          rw [show D.plI v 125 = false from decide_eq_false (by omega)]
          go_enter Tryz.func63, Tryz.ntmps63
          go_wp2
          go_ret
          exact ⟨rfl, rfl⟩
        · have q3 : (c != 125) = true := by simpa using h4
          by_cases h5 : c = 35
          · subst h5
            cases v
            · rw [show D.plI false 35 = true from rfl]
              go_enter Tryz.func63, Tryz.ntmps63
              go_wp2
              go_ret
              exact ⟨rfl, rfl⟩
            · rw [show D.plI true 35 = false from rfl]
              go_enter Tryz.func63, Tryz.ntmps63
              go_wp2
              go_ret
              exact ⟨rfl, rfl⟩
          · have q4 : (c != 35) = true := by simpa using h5
            rw [show D.plI v c = true from decide_eq_true ⟨h1, h2, h3, h4, .inl h5⟩]
            clear h2 h3 h4 h5
            go_enter Tryz.func63, Tryz.ntmps63
            go_wp2
            go_ret
            exact ⟨rfl, rfl⟩
  · have h1' : c < 32 := by omega
    rw [show D.plI v c = false from decide_eq_false (by omega)]
    go_enter Tryz.func63, Tryz.ntmps63
    go_wp2
    go_ret
    exact ⟨rfl, rfl⟩
end Go.Proofs.YtlheaabmpcnchaaGreatDoor
set_option linter.unusedVariables false
set_option linter.unusedSimpArgs false
set_option maxRecDepth 100000
namespace Go.Proofs.YtlheaabmpcnchaaGreatDoor
open Go.RowKit
attribute [local go_sem ↓] Go.wp_at_zero Go.wp_at_succ

/-- What was there stays, but for these blocks. -/
structure Fr (S : Nat → Prop) (w w' : World) : Prop where
  os : w'.os = w.os
  tape : w'.tape = w.tape
  output : w'.output = w.output
  size : w.heap.size ≤ w'.heap.size
  same : ∀ i, i < w.heap.size → ¬ S i → w'.heap[i]? = w.heap[i]?
section
variable {S S' : Nat → Prop} {w w' w2 : World}
theorem Fr.refl (S : Nat → Prop) (w : World) : Fr S w w := ⟨rfl, rfl, rfl, Nat.le_refl _, fun _ _ _ => rfl⟩
theorem Fr.of_below {B : Nat} (hb : Below B w w') (hB : w.heap.size ≤ B) : Fr S w w' := ⟨hb.os, hb.tape, hb.output, hb.size, fun i hi _ => hb.block i (Nat.lt_of_lt_of_le hi hB)⟩
theorem Fr.trans (h : Fr S w w') (k : Fr S' w' w2) (hs : ∀ i, i < w.heap.size → S' i → S i) : Fr S w w2 :=
  ⟨k.os.trans h.os, k.tape.trans h.tape, k.output.trans h.output, Nat.le_trans h.size k.size, fun i hi hn => (k.same i (Nat.lt_of_lt_of_le hi h.size) fun hq => hn (hs i hi hq)).trans (h.same i hi hn)⟩
theorem Fr.step (h : Fr S w w') (k : Fr S w' w2) : Fr S w w2 := h.trans k fun _ _ h => h
theorem Fr.mono (h : Fr S w w') (hs : ∀ i, i < w.heap.size → S i → S' i) : Fr S' w w' := ⟨h.os, h.tape, h.output, h.size, fun i hi hn => h.same i hi fun hq => hn (hs i hi hq)⟩
theorem Fr.below (h : Fr S w w') {B : Nat} (hB : B ≤ w.heap.size) (hs : ∀ i, i < B → ¬ S i) : Below B w w' := ⟨h.os, h.tape, h.output, h.size, fun i hi => h.same i (Nat.lt_of_lt_of_le hi hB) (hs i hi)⟩
theorem Fr.alloc (h : Fr S w w') (o : Obj) : Fr S w (w'.alloc o) := h.trans (S' := S) (Fr.of_below ((Below.refl _ _).alloc (Nat.le_refl _) o) (Nat.le_refl _)) fun _ _ h => h
theorem Fr.setCell (h : Fr S w w') (p : Addr) (u : Value) (hp : p.block < w.heap.size → S p.block) : Fr S w (w'.setCell p u) :=
  ⟨h.os, h.tape, h.output, by simpa using h.size, fun i hi hn => (Below.heap_setCell w' p u i (fun e => hn (e ▸ hp (e ▸ hi)))).trans (h.same i hi hn)⟩
theorem Fr.blk (h : Fr S w w') {g : Nat} {t : TypeId} {cs : Array Value} (hb : Blk w g t cs) (hg : ¬ S g) : Blk w' g t cs := ⟨(h.same g hb.lt hg).trans hb.out⟩
theorem Fr.cell (h : Fr S w w') {p : Addr} {v : Value} (hc : w.cell? p = some v) (hg : ¬ S p.block) : w'.cell? p = some v := (World.cell?_of_block (w := w) (h.same _ (World.block_lt_of_cell? w _ hc) hg)).trans hc
theorem Fr.keeps {F : Nat → Prop} (h : Fr S w w') (hF : ∀ i, F i → ¬ S i) : (w.heap.size ≤ w'.heap.size) ∧ ∀ b, F b → b < w.heap.size → w'.heap[b]? = w.heap[b]? := ⟨h.size, fun b hb hl => h.same b hl (hF b hb)⟩
end
theorem Blk.c_ {w : World} {g : Nat} {t : TypeId} {cs : Array Value} (h : Blk w g t cs) (i : Nat) : w.cell? ⟨g, i, none⟩ = cs[i]? := cell_of_row w g i cs t (0, 0) h.out
theorem Blk.f_ {w : World} {g : Nat} {t : TypeId} {cs : Array Value} (h : Blk w g t cs) (i : Nat) : w.frozen? ⟨g, i, none⟩ = false := by
  have := h.out
  simp [World.frozen?, this]
theorem Blk.put_ {w : World} {g : Nat} {t : TypeId} {cs : Array Value} (h : Blk w g t cs) (i : Nat) (u : Value) : Blk (w.setCell ⟨g, i, none⟩ u) g t (cs.setIfInBounds i u) := by
  have := h.out
  exact ⟨by simp [World.setCell, Array.getElem?_modify, this]⟩
/-- A reader: its text, where it is, what is wrong. -/
def Rdr (w : World) (g : Nat) (s : ByteArray) (a e : Nat) : Prop := Blk w g 74 #[.string s, .int .i64 (a : Nat), .int .i64 (e : Nat)]
section
variable {w w' : World} {g a e : Nat} {s : ByteArray}
theorem Rdr.lt (h : Rdr w g s a e) : g < w.heap.size := Blk.lt h
theorem Rdr.c0 (h : Rdr w g s a e) : w.cell? ⟨g, 0, none⟩ = some (.string s) := Blk.c_ h 0
theorem Rdr.c1 (h : Rdr w g s a e) : w.cell? ⟨g, 1, none⟩ = some (.int .i64 (a : Nat)) := Blk.c_ h 1
theorem Rdr.c2 (h : Rdr w g s a e) : w.cell? ⟨g, 2, none⟩ = some (.int .i64 (e : Nat)) := Blk.c_ h 2
theorem Rdr.f (h : Rdr w g s a e) (i : Nat) : w.frozen? ⟨g, i, none⟩ = false := Blk.f_ h i
theorem Rdr.on (h : Rdr w g s a e) (hb : Below w.heap.size w w') : Rdr w' g s a e := Blk.on h hb
theorem Rdr.fr {S : Nat → Prop} (h : Rdr w g s a e) (k : Fr S w w') (hg : ¬ S g) : Rdr w' g s a e := k.blk h hg
theorem Rdr.put1 (h : Rdr w g s a e) (b : Nat) : Rdr (w.setCell ⟨g, 1, none⟩ (.int .i64 (b : Nat))) g s b e := Blk.put_ h 1 _
theorem Rdr.put2 (h : Rdr w g s a e) (b : Nat) : Rdr (w.setCell ⟨g, 2, none⟩ (.int .i64 (b : Nat))) g s a b := Blk.put_ h 2 _
end
abbrev vr (g : Nat) : Value := .pointer (some ⟨g, 0, none⟩)
/-- The byte that comes: 0 at the end, and where something is wrong. -/
def D.nb (l : List Nat) (a e : Nat) : Nat := if e = 0 then l.getD a 0 else 0
theorem D.nb_dead {l : List Nat} {a e : Nat} (h : e ≠ 0) : D.nb l a e = 0 := if_neg h
theorem D.nb_live {l : List Nat} {a : Nat} : D.nb l a 0 = l.getD a 0 := if_pos rfl
theorem next_any (s : ByteArray) (g a e : Nat) (w : World) (h : Rdr w g s a e) (ha : a ≤ s.size) : Calls Tryz.prog 58 #[vr g] w fun x w' => x = .returned (.int .u8 (D.nb (D.ns s) a e : Nat)) ∧ Below w.heap.size w w' := by
  have c0 := h.c0
  have c1 := h.c1
  have c2 := h.c2
  have hlen := D.ns_len s
  by_cases he : e = 0
  · subst he
    by_cases hlt : a < s.size
    · have hx : D.nb (D.ns s) a 0 = s[a].toNat := by
        rw [D.nb_live, List.getD, ns_get hlt]; rfl
      have hI : (a : Int) < s.size := by omega
      have hne : ((a : Int) == (s.size : Int)) = false := by simp; omega
      rw [hx]
      clear hx h
      go_enter Tryz.func58, Tryz.ntmps58
      go_wp2
      go_quiet (fail)
      go_wp2
      go_quiet (fail)
      go_wp2
      go_ret
      exact ⟨rfl, ⟨rfl, rfl, rfl, Nat.le_refl _, fun _ _ => rfl⟩⟩
    · have hx : D.nb (D.ns s) a 0 = 0 := by
        rw [D.nb_live, List.getD, List.getElem?_eq_none (by omega)]; rfl
      have hne : ((a : Int) == (s.size : Int)) = true := by simp; omega
      rw [hx]
      clear hx h
      go_enter Tryz.func58, Tryz.ntmps58
      go_wp2
      go_quiet (fail)
      go_wp2
      go_ret
      exact ⟨rfl, ⟨rfl, rfl, rfl, Nat.le_refl _, fun _ _ => rfl⟩⟩
  · rw [D.nb_dead he]
    have hne : ((e : Int) != 0) = true := by simp; omega
    clear h
    go_enter Tryz.func58, Tryz.ntmps58
    go_wp2
    go_quiet (fail)
    go_wp2
    go_ret
    exact ⟨rfl, ⟨rfl, rfl, rfl, Nat.le_refl _, fun _ _ => rfl⟩⟩
/-- What stands behind a fault that is told. -/
def D.fl (a e b f : Nat) : Nat × Nat := if e = 0 then (b, f) else (a, e)
theorem fail_any (s : ByteArray) (g a e b f : Nat) (w : World) (h : Rdr w g s a e) (z : Int) (hz : z = f) : Calls Tryz.prog 27 #[vr g, .int .i64 (b : Nat), .int .i64 z] w fun x w' => x = .returned (.tuple #[]) ∧ Rdr w' g s (D.fl a e b f).1 (D.fl a e b f).2 ∧ Fr (· = g) w w' := by
  subst hz
  have c2 := h.c2
  have c1 := h.c1
  have ff := h.f
  have hl := h.lt
  by_cases he : e = 0
  · subst he
    have h1 := (h.put1 b).put2 f
    have H1 := Lib.hid h1
    clear h1 h
    go_enter Tryz.func27, Tryz.ntmps27
    go_wp2
    go_end0
    exact ⟨rfl, H1.out, ((Fr.refl (· = g) w).setCell _ _ fun _ => rfl).setCell _ _ fun _ => rfl⟩
  · have hne : ((e : Int) == 0) = false := by simp; omega
    have H1 : Hid (Rdr w g s (D.fl a e b f).1 (D.fl a e b f).2) := Lib.hid (by unfold D.fl; rw [if_neg he]; exact h)
    clear h
    go_enter Tryz.func27, Tryz.ntmps27
    go_wp2
    go_end0
    exact ⟨rfl, H1.out, Fr.refl _ _⟩
/-- Behind a byte that must come. -/
def D.tk (l : List Nat) (c a e : Nat) : Nat × Nat := if D.nb l a e = c then (a + 1, e) else D.fl a e a 3
theorem take_any (s : ByteArray) (g a e c : Nat) (w : World) (h : Rdr w g s a e) (ha : a ≤ s.size) (hs : s.size ≤ 1000) (hc : c < 256) (z : Int) (hz : z = c) : Calls Tryz.prog 60 #[vr g, .int .u8 z] w fun x w' => x = .returned (.tuple #[]) ∧ Rdr w' g s (D.tk (D.ns s) c a e).1 (D.tk (D.ns s) c a e).2 ∧ Fr (· = g) w w' := by
  subst hz
  have cN := Lib.hid (next_any s g a e w h ha)
  have cF := Lib.hid (fun W (hW : Rdr W g s a e) => fail_any s g a e a 3 W hW 3 rfl)
  obtain ⟨l, hl⟩ : ∃ l, D.ns s = l := ⟨_, rfl⟩
  rw [hl] at cN ⊢
  obtain ⟨x, hx⟩ : ∃ x, D.nb l a e = x := ⟨_, rfl⟩
  have HH := Lib.hid h
  unfold D.tk
  rw [hx] at cN ⊢
  clear h hl hx
  by_cases hq : x = c
  · subst hq
    rw [if_pos rfl]
    have t : ((x : Int) != (x : Int)) = false := by simp
    go_enter Tryz.func60, Tryz.ntmps60
    go_wp2_with (go_at_call 58; (with_reducible refine cN.out.mono ?_); rintro y w1 ⟨rfl, b1⟩; have H1 := Lib.hid (HH.out.on b1); have c1 := H1.out.c1; have c2 := H1.out.c2; have ff := H1.out.f; have hl := H1.out.lt; have B1 := Lib.hid b1; clear b1)
    go_end0
    refine ⟨rfl, ?_, (Fr.of_below (S := (· = g)) B1.out (Nat.le_refl _)).setCell _ _ fun _ => rfl⟩
    have h2 := H1.out.put1 (a + 1)
    have e1 : ((a + 1 : Nat) : Int) = (a : Int) + 1 := by omega
    rw [e1] at h2
    simpa using h2
  · rw [if_neg hq]
    have t : ((x : Int) != (c : Int)) = true := by simp; omega
    go_enter Tryz.func60, Tryz.ntmps60
    go_wp2_with (first
      | (go_at_call 58; (with_reducible refine cN.out.mono ?_); rintro y w1 ⟨rfl, b1⟩; have H1 := Lib.hid (HH.out.on b1); have c1 := H1.out.c1; have c2 := H1.out.c2; have ff := H1.out.f; have hl := H1.out.lt; have B1 := Lib.hid b1; clear b1)
      | (go_at_call 27; (with_reducible refine (cF.out _ H1.out).mono ?_); rintro y w2 ⟨rfl, h2, f2⟩))
    refine bodyPost_ret (v := .tuple #[]) (by simp [results, Tryz.results60, go_sem]) rfl ?_
    exact ⟨rfl, h2, (Fr.of_below (S := (· = g)) B1.out (Nat.le_refl _)).step f2⟩
def cln_ren : Go.Shelf.Ren := ⟨fun | 25 => 106 | n => n, fun | 37 => 93 | 47 => 149 | 9 => 9 | 4 => 4 | 3 => 3 | 5 => 5 | 0 => 0 | n => n, fun n => n⟩
theorem cln_lays : Go.Proofs.LaysPu.n25 Tryz.prog cln_ren := {
  mixed := by kernel_rfl
  f25 := Tryz.func106.trans (congrArg some (by kernel_rfl))
  t0 := by kernel_rfl
  a0 := fun _ => by kernel_rfl
  z0 := fun _ => by kernel_rfl
  v0 := fun _ => by kernel_rfl
  i0 := by kernel_rfl
  t3 := Tryz.underlying3
  a3 := Tryz.isAgg3
  z3 := Tryz.sizeOf3
  v3 := Tryz.zeroValue3
  i3 := by kernel_rfl
  t4 := Tryz.underlying4
  a4 := Tryz.isAgg4
  z4 := Tryz.sizeOf4
  v4 := Tryz.zeroValue4
  i4 := by kernel_rfl
  t5 := Tryz.underlying5
  a5 := Tryz.isAgg5
  z5 := Tryz.sizeOf5
  v5 := Tryz.zeroValue5
  i5 := by kernel_rfl
  t9 := Tryz.underlying9
  a9 := Tryz.isAgg9
  z9 := Tryz.sizeOf9
  v9 := Tryz.zeroValue9
  i9 := by kernel_rfl
  t37 := Tryz.underlying93
  a37 := Tryz.isAgg93
  z37 := Tryz.sizeOf93
  v37 := Tryz.zeroValue93
  i37 := by kernel_rfl
  t47 := Tryz.underlying149
  a47 := Tryz.isAgg149
  z47 := Tryz.sizeOf149
  v47 := Tryz.zeroValue149
  i47 := by kernel_rfl }
theorem clone_any (s : ByteArray) (w : World) (hs : s.size ≤ 1000000) : Calls Tryz.prog 72 #[.string s] w fun e w' => e = .returned (.string s) ∧ Below w.heap.size w w' := by
  have cI : Hid (Calls Tryz.prog 106 #[.string s] w fun e w' => e = .returned (.string s) ∧ Below w.heap.size w w') := Lib.hid (AnyPu.stringslite_Clone cln_lays s w (by omega))
  go_enter Tryz.func72, Tryz.ntmps72
  go_wp2_with (go_at_call 106; (with_reducible refine cI.out.mono ?_); rintro y w1 ⟨rfl, b1⟩)
  go_ret
  exact ⟨rfl, b1⟩
end Go.Proofs.YtlheaabmpcnchaaGreatDoor
