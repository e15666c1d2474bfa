/-
  The document's sets and words.
  The document's Category and Legal: what is wrong with a case's word.
  Parts in memory: append of one part; the first part of a row; cuts of texts; blocks known whole.
-/
import Derived.Test.YtlheaabmpcnchaaGreatDoorG11
import Derived.Deep.CutRange
import Derived.Test.YtlheaabmpcnchaaGreatDoorG13
import Derived.Test.YtlheaabmpcnchaaGreatDoorG12
import Derived.Test.YtlheaabmpcnchaaGreatDoorRow
set_option linter.unusedVariables false
set_option linter.unusedSimpArgs false
set_option maxRecDepth 100000
namespace Go.Proofs.YtlheaabmpcnchaaGreatDoor
open Go.RowKit
attribute [local go_sem ↓] Go.wp_at_zero Go.wp_at_succ
theorem rword_any (c : Int) (w : World) : Calls Tryz.prog 56 #[.int .i64 c] w fun e w' => e = .returned (.string (D.sb (D.wrd c))) ∧ Below w.heap.size w w' := by
  have B := Blk.new w 9 #[.string ⟨#[122, 101, 114, 111]⟩, .string ⟨#[111, 110, 101]⟩, .string ⟨#[116, 119, 111]⟩, .string ⟨#[102, 101, 119]⟩, .string ⟨#[109, 97, 110, 121]⟩, .string ⟨#[111, 116, 104, 101, 114]⟩]
  have z := below_alloc_ w (.cells #[.string ⟨#[122, 101, 114, 111]⟩, .string ⟨#[111, 110, 101]⟩, .string ⟨#[116, 119, 111]⟩, .string ⟨#[102, 101, 119]⟩, .string ⟨#[109, 97, 110, 121]⟩, .string ⟨#[111, 116, 104, 101, 114]⟩] 9)
  by_cases h : 0 ≤ c
  · by_cases h2 : c ≤ 5
    · obtain rfl | rfl | rfl | rfl | rfl | rfl : c = 0 ∨ c = 1 ∨ c = 2 ∨ c = 3 ∨ c = 4 ∨ c = 5 := by omega
      all_goals
        clear B h h2
        go_enter Tryz.func56, Tryz.ntmps56
        go_wp2
        go_ret
        exact ⟨by rfl, z⟩
    · have hw : D.wrd c = [] := by unfold D.wrd; rw [if_neg (by omega)]
      rw [hw]
      have i1 : 5 < c := by omega
      clear h2 hw B
      go_enter Tryz.func56, Tryz.ntmps56
      go_wp2
      go_ret
      exact ⟨by rfl, z⟩
  · have hw : D.wrd c = [] := by unfold D.wrd; rw [if_neg (by omega)]
    rw [hw]
    have i1 : c < 0 := by omega
    clear h hw B
    go_enter Tryz.func56, Tryz.ntmps56
    go_wp2
    go_ret
    exact ⟨by rfl, z⟩
abbrev f6 : Array Value := #[.bool false, .bool false, .bool false, .bool false, .bool false, .bool false]
end Go.Proofs.YtlheaabmpcnchaaGreatDoor
set_option linter.unusedVariables false
set_option linter.unusedSimpArgs false
set_option maxRecDepth 100000
namespace Go.Proofs.YtlheaabmpcnchaaGreatDoor
open Go.RowKit
attribute [local go_sem ↓] Go.wp_at_zero Go.wp_at_succ
theorem txt_u8 (u : List UInt8) (l : List Nat) (s : ByteArray) (h : u.map (·.toNat) = l) : (u == s.toList) = decide (l = D.ns s) := by
  have e := txt_eq ⟨u.toArray⟩ s
  have e2 : (⟨u.toArray⟩ : ByteArray).toList = u := by rw [ByteArray.toList_eq]
  have e3 : D.ns ⟨u.toArray⟩ = l := by rw [D.ns, ← h]
  rw [e2, e3] at e
  exact e
set_option maxHeartbeats 4000000 in
theorem cat_any (u : ByteArray) (w : World) : Calls Tryz.prog 137 #[.string u] w fun e w' => e = .returned (.int .i64 (D.fnd D.catW (D.ns u))) ∧ Below w.heap.size w w' := by
  have t0 := txt_u8 [122, 101, 114, 111] (D.catW.getD 0 []) u rfl
  have t1 := txt_u8 [111, 110, 101] (D.catW.getD 1 []) u rfl
  have t2 := txt_u8 [116, 119, 111] (D.catW.getD 2 []) u rfl
  have t3 := txt_u8 [102, 101, 119] (D.catW.getD 3 []) u rfl
  have t4 := txt_u8 [109, 97, 110, 121] (D.catW.getD 4 []) u rfl
  have t5 := txt_u8 [111, 116, 104, 101, 114] (D.catW.getD 5 []) u rfl
  obtain ⟨t, ht⟩ : ∃ t, D.ns u = t := ⟨_, rfl⟩
  rw [ht] at t0 t1 t2 t3 t4 t5 ⊢
  clear ht
  go_enter Tryz.func137, Tryz.ntmps137
  go_wp2_with fail
  go_loopw [3] (fun a wr => ∃ k : Nat, k ≤ 6 ∧ (k = 0 → a = .int .i64 0) ∧ (k = 1 → a = .int .i64 1) ∧ (k = 2 → a = .int .i64 2) ∧ (k = 3 → a = .int .i64 3) ∧ (k = 4 → a = .int .i64 4) ∧ (k = 5 → a = .int .i64 5) ∧ (k = 6 → a = .int .i64 6) ∧ Kept (∀ j, j < k → D.catW[j]? ≠ some t) ∧ Below w.heap.size w wr) (fun a _ => 6 - (intOf a).toNat)
  case atStart => exact ⟨0, Nat.zero_le _, fun _ => rfl, fun h => by omega, fun h => by omega, fun h => by omega, fun h => by omega, fun h => by omega, fun h => by omega, ⟨fun j hj => by omega⟩, Below.refl _ _⟩
  case round =>
    obtain ⟨k, hk, e0, e1, e2, e3, e4, e5, e6, HN, z⟩ := hrel
    by_cases hlt : k < 6
    · have hnx : D.catW[k]? ≠ some t → Kept (∀ j, j < k + 1 → D.catW[j]? ≠ some t) := fun h => ⟨fun j hj => by
        obtain h1 | rfl : j < k ∨ j = k := by omega
        · exact HN.out j h1
        · exact h⟩
      have hfd : D.catW[k]? = some t → Kept (D.fnd D.catW t = k) := fun h => ⟨D.fnd_some h HN.out⟩
      clear HN
      obtain rfl | rfl | rfl | rfl | rfl | rfl : k = 0 ∨ k = 1 ∨ k = 2 ∨ k = 3 ∨ k = 4 ∨ k = 5 := by omega
      · obtain rfl := e0 rfl
        clear e0 e1 e2 e3 e4 e5 e6 hlt hk
        have tt := t0
        clear t0 t1 t2 t3 t4 t5
        have CW := Lib.hid (fun W => (show Calls Tryz.prog 56 #[.int .i64 0] W fun e w' => e = .returned (.string ⟨#[122, 101, 114, 111]⟩) ∧ Below W.heap.size W w' from rword_any 0 W))
        by_cases h : D.catW.getD 0 [] = t
        · rw [decide_eq_true h] at tt
          have HF := hfd (by rw [← h]; rfl)
          clear hfd hnx h
          go_wp2_with (go_at_call 56; (with_reducible refine (CW.out _).mono ?_); rintro e w1 ⟨rfl, b1⟩; have z1 := z.trans (b1.mono z.size))
          go_ret
          exact ⟨ret_of (by rw [HF.out]; rfl), z1⟩
        · rw [decide_eq_false h] at tt
          have HN' := hnx (by intro e; exact h (by have : D.catW[0]? = some (D.catW.getD 0 []) := rfl; rw [this] at e; injection e))
          clear hfd hnx h
          go_wp2_with (go_at_call 56; (with_reducible refine (CW.out _).mono ?_); rintro e w1 ⟨rfl, b1⟩; have z1 := z.trans (b1.mono z.size))
          go_roundw
          case rel => exact ⟨1, by omega, fun h => by omega, fun _ => rfl, fun h => by omega, fun h => by omega, fun h => by omega, fun h => by omega, fun h => by omega, HN', z1⟩
          case measure => simp [intOf]
      · obtain rfl := e1 rfl
        clear e0 e1 e2 e3 e4 e5 e6 hlt hk
        have tt := t1
        clear t0 t1 t2 t3 t4 t5
        have CW := Lib.hid (fun W => (show Calls Tryz.prog 56 #[.int .i64 1] W fun e w' => e = .returned (.string ⟨#[111, 110, 101]⟩) ∧ Below W.heap.size W w' from rword_any 1 W))
        by_cases h : D.catW.getD 1 [] = t
        · rw [decide_eq_true h] at tt
          have HF := hfd (by rw [← h]; rfl)
          clear hfd hnx h
          go_wp2_with (go_at_call 56; (with_reducible refine (CW.out _).mono ?_); rintro e w1 ⟨rfl, b1⟩; have z1 := z.trans (b1.mono z.size))
          go_ret
          exact ⟨ret_of (by rw [HF.out]; rfl), z1⟩
        · rw [decide_eq_false h] at tt
          have HN' := hnx (by intro e; exact h (by have : D.catW[1]? = some (D.catW.getD 1 []) := rfl; rw [this] at e; injection e))
          clear hfd hnx h
          go_wp2_with (go_at_call 56; (with_reducible refine (CW.out _).mono ?_); rintro e w1 ⟨rfl, b1⟩; have z1 := z.trans (b1.mono z.size))
          go_roundw
          case rel => exact ⟨2, by omega, fun h => by omega, fun h => by omega, fun _ => rfl, fun h => by omega, fun h => by omega, fun h => by omega, fun h => by omega, HN', z1⟩
          case measure => simp [intOf]
      · obtain rfl := e2 rfl
        clear e0 e1 e2 e3 e4 e5 e6 hlt hk
        have tt := t2
        clear t0 t1 t2 t3 t4 t5
        have CW := Lib.hid (fun W => (show Calls Tryz.prog 56 #[.int .i64 2] W fun e w' => e = .returned (.string ⟨#[116, 119, 111]⟩) ∧ Below W.heap.size W w' from rword_any 2 W))
        by_cases h : D.catW.getD 2 [] = t
        · rw [decide_eq_true h] at tt
          have HF := hfd (by rw [← h]; rfl)
          clear hfd hnx h
          go_wp2_with (go_at_call 56; (with_reducible refine (CW.out _).mono ?_); rintro e w1 ⟨rfl, b1⟩; have z1 := z.trans (b1.mono z.size))
          go_ret
          exact ⟨ret_of (by rw [HF.out]; rfl), z1⟩
        · rw [decide_eq_false h] at tt
          have HN' := hnx (by intro e; exact h (by have : D.catW[2]? = some (D.catW.getD 2 []) := rfl; rw [this] at e; injection e))
          clear hfd hnx h
          go_wp2_with (go_at_call 56; (with_reducible refine (CW.out _).mono ?_); rintro e w1 ⟨rfl, b1⟩; have z1 := z.trans (b1.mono z.size))
          go_roundw
          case rel => exact ⟨3, by omega, fun h => by omega, fun h => by omega, fun h => by omega, fun _ => rfl, fun h => by omega, fun h => by omega, fun h => by omega, HN', z1⟩
          case measure => simp [intOf]
      · obtain rfl := e3 rfl
        clear e0 e1 e2 e3 e4 e5 e6 hlt hk
        have tt := t3
        clear t0 t1 t2 t3 t4 t5
        have CW := Lib.hid (fun W => (show Calls Tryz.prog 56 #[.int .i64 3] W fun e w' => e = .returned (.string ⟨#[102, 101, 119]⟩) ∧ Below W.heap.size W w' from rword_any 3 W))
        by_cases h : D.catW.getD 3 [] = t
        · rw [decide_eq_true h] at tt
          have HF := hfd (by rw [← h]; rfl)
          clear hfd hnx h
          go_wp2_with (go_at_call 56; (with_reducible refine (CW.out _).mono ?_); rintro e w1 ⟨rfl, b1⟩; have z1 := z.trans (b1.mono z.size))
          go_ret
          exact ⟨ret_of (by rw [HF.out]; rfl), z1⟩
        · rw [decide_eq_false h] at tt
          have HN' := hnx (by intro e; exact h (by have : D.catW[3]? = some (D.catW.getD 3 []) := rfl; rw [this] at e; injection e))
          clear hfd hnx h
          go_wp2_with (go_at_call 56; (with_reducible refine (CW.out _).mono ?_); rintro e w1 ⟨rfl, b1⟩; have z1 := z.trans (b1.mono z.size))
          go_roundw
          case rel => exact ⟨4, by omega, fun h => by omega, fun h => by omega, fun h => by omega, fun h => by omega, fun _ => rfl, fun h => by omega, fun h => by omega, HN', z1⟩
          case measure => simp [intOf]
      · obtain rfl := e4 rfl
        clear e0 e1 e2 e3 e4 e5 e6 hlt hk
        have tt := t4
        clear t0 t1 t2 t3 t4 t5
        have CW := Lib.hid (fun W => (show Calls Tryz.prog 56 #[.int .i64 4] W fun e w' => e = .returned (.string ⟨#[109, 97, 110, 121]⟩) ∧ Below W.heap.size W w' from rword_any 4 W))
        by_cases h : D.catW.getD 4 [] = t
        · rw [decide_eq_true h] at tt
          have HF := hfd (by rw [← h]; rfl)
          clear hfd hnx h
          go_wp2_with (go_at_call 56; (with_reducible refine (CW.out _).mono ?_); rintro e w1 ⟨rfl, b1⟩; have z1 := z.trans (b1.mono z.size))
          go_ret
          exact ⟨ret_of (by rw [HF.out]; rfl), z1⟩
        · rw [decide_eq_false h] at tt
          have HN' := hnx (by intro e; exact h (by have : D.catW[4]? = some (D.catW.getD 4 []) := rfl; rw [this] at e; injection e))
          clear hfd hnx h
          go_wp2_with (go_at_call 56; (with_reducible refine (CW.out _).mono ?_); rintro e w1 ⟨rfl, b1⟩; have z1 := z.trans (b1.mono z.size))
          go_roundw
          case rel => exact ⟨5, by omega, fun h => by omega, fun h => by omega, fun h => by omega, fun h => by omega, fun h => by omega, fun _ => rfl, fun h => by omega, HN', z1⟩
          case measure => simp [intOf]
      · obtain rfl := e5 rfl
        clear e0 e1 e2 e3 e4 e5 e6 hlt hk
        have tt := t5
        clear t0 t1 t2 t3 t4 t5
        have CW := Lib.hid (fun W => (show Calls Tryz.prog 56 #[.int .i64 5] W fun e w' => e = .returned (.string ⟨#[111, 116, 104, 101, 114]⟩) ∧ Below W.heap.size W w' from rword_any 5 W))
        by_cases h : D.catW.getD 5 [] = t
        · rw [decide_eq_true h] at tt
          have HF := hfd (by rw [← h]; rfl)
          clear hfd hnx h
          go_wp2_with (go_at_call 56; (with_reducible refine (CW.out _).mono ?_); rintro e w1 ⟨rfl, b1⟩; have z1 := z.trans (b1.mono z.size))
          go_ret
          exact ⟨ret_of (by rw [HF.out]; rfl), z1⟩
        · rw [decide_eq_false h] at tt
          have HN' := hnx (by intro e; exact h (by have : D.catW[5]? = some (D.catW.getD 5 []) := rfl; rw [this] at e; injection e))
          clear hfd hnx h
          go_wp2_with (go_at_call 56; (with_reducible refine (CW.out _).mono ?_); rintro e w1 ⟨rfl, b1⟩; have z1 := z.trans (b1.mono z.size))
          go_roundw
          case rel => exact ⟨6, by omega, fun h => by omega, fun h => by omega, fun h => by omega, fun h => by omega, fun h => by omega, fun h => by omega, fun _ => rfl, HN', z1⟩
          case measure => simp [intOf]
    · obtain rfl : k = 6 := by omega
      obtain rfl := e6 rfl
      have HF : Kept (D.fnd D.catW t = -1) := ⟨D.fnd_none HN.out⟩
      clear e0 e1 e2 e3 e4 e5 e6 hlt hk HN t0 t1 t2 t3 t4 t5
      go_wp2
      go_ret
      exact ⟨ret_of HF.out.symm, z⟩
/-- What is wrong with a case's word. -/
theorem legal_any (k : Nat) (u : ByteArray) (A : Option Addr) (n c : Nat) (ws : List (List Nat)) (w : World) (hk : k = 3 ∨ k = 4) (hr : Rw 1 w A n (strs ws)) (hb : D.B8 ws) (hn : n ≤ 1000000) :
    Calls Tryz.prog 100 #[.int .i64 k, .string u, .slice A n c] w fun e w' => e = .returned (.int .i64 (D.lgl k (D.ns u) ws : Nat)) ∧ Below w.heap.size w w' := by
  have cF := fun W (h : Rw 1 W A n (strs ws)) => find_any A n c ws u W h hb hn
  have cI := fun W => Nm.ref_is u W
  have cC := fun W => cat_any u W
  obtain ⟨t, ht⟩ : ∃ t, D.ns u = t := ⟨_, rfl⟩
  rw [ht] at cF cI cC ⊢
  clear ht
  rcases hk with rfl | rfl
  · by_cases h : t ∈ D.catW
    · have hc : 0 ≤ D.fnd D.catW t := by unfold D.fnd; rw [if_pos h]; omega
      have hl : D.lgl 3 t ws = if t ∈ ws then 8 else 0 := by unfold D.lgl; rw [if_neg (by simp [h])]
      rw [hl]
      obtain ⟨z, hz⟩ : ∃ z, D.fnd D.catW t = z := ⟨_, rfl⟩
      rw [hz] at cC hc
      by_cases hw : t ∈ ws
      · have hf : 0 ≤ D.fnd ws t := by unfold D.fnd; rw [if_pos hw]; omega
        obtain ⟨y, hy⟩ : ∃ z, D.fnd ws t = z := ⟨_, rfl⟩
        rw [hy] at cF hf
        rw [if_pos hw]
        have CF := Lib.hid cF
        have CC := Lib.hid cC
        clear cF cC cI hl h hw hy hz
        go_enter Tryz.func100, Tryz.ntmps100
        go_wp2_with (first
          | (go_at_call 137; (with_reducible refine (CC.out _).mono ?_); rintro e w1 ⟨rfl, b1⟩; have r1 := hr.on b1)
          | (go_at_call 55; (with_reducible refine (CF.out _ r1).mono ?_); rintro e w2 ⟨rfl, rfl⟩))
        go_ret
        exact ⟨rfl, b1⟩
      · have hf : D.fnd ws t < 0 := by unfold D.fnd; rw [if_neg hw]; omega
        obtain ⟨y, hy⟩ : ∃ z, D.fnd ws t = z := ⟨_, rfl⟩
        rw [hy] at cF hf
        rw [if_neg hw]
        have CF := Lib.hid cF
        have CC := Lib.hid cC
        clear cF cC cI hl h hw hy hz
        go_enter Tryz.func100, Tryz.ntmps100
        go_wp2_with (first
          | (go_at_call 137; (with_reducible refine (CC.out _).mono ?_); rintro e w1 ⟨rfl, b1⟩; have r1 := hr.on b1)
          | (go_at_call 55; (with_reducible refine (CF.out _ r1).mono ?_); rintro e w2 ⟨rfl, rfl⟩))
        go_ret
        exact ⟨rfl, b1⟩
    · have hc : D.fnd D.catW t < 0 := by unfold D.fnd; rw [if_neg h]; omega
      have hl : D.lgl 3 t ws = 15 := by unfold D.lgl; rw [if_pos (.inl ⟨rfl, h⟩)]
      rw [hl]
      obtain ⟨z, hz⟩ : ∃ z, D.fnd D.catW t = z := ⟨_, rfl⟩
      rw [hz] at cC hc
      have CC := Lib.hid cC
      clear cF cC cI hl h hz
      go_enter Tryz.func100, Tryz.ntmps100
      go_wp2_with (go_at_call 137; (with_reducible refine (CC.out _).mono ?_); rintro e w1 ⟨rfl, b1⟩)
      go_ret
      exact ⟨rfl, b1⟩
  · cases h : Nm.D.isB t with
    | true =>
      rw [h] at cI
      have hl : D.lgl 4 t ws = if t ∈ ws then 8 else 0 := by unfold D.lgl; rw [if_neg (by simp [h])]
      rw [hl]
      by_cases hw : t ∈ ws
      · have hf : 0 ≤ D.fnd ws t := by unfold D.fnd; rw [if_pos hw]; omega
        obtain ⟨y, hy⟩ : ∃ z, D.fnd ws t = z := ⟨_, rfl⟩
        rw [hy] at cF hf
        rw [if_pos hw]
        have CF := Lib.hid cF
        have CI := Lib.hid cI
        clear cF cC cI hl h hw hy
        go_enter Tryz.func100, Tryz.ntmps100
        go_wp2_with (first
          | (go_at_call 21; (with_reducible refine (CI.out _).mono ?_); rintro e w1 ⟨rfl, rfl⟩)
          | (go_at_call 55; (with_reducible refine (CF.out _ hr).mono ?_); rintro e w2 ⟨rfl, rfl⟩))
        go_ret
        exact ⟨rfl, Below.refl _ _⟩
      · have hf : D.fnd ws t < 0 := by unfold D.fnd; rw [if_neg hw]; omega
        obtain ⟨y, hy⟩ : ∃ z, D.fnd ws t = z := ⟨_, rfl⟩
        rw [hy] at cF hf
        rw [if_neg hw]
        have CF := Lib.hid cF
        have CI := Lib.hid cI
        clear cF cC cI hl h hw hy
        go_enter Tryz.func100, Tryz.ntmps100
        go_wp2_with (first
          | (go_at_call 21; (with_reducible refine (CI.out _).mono ?_); rintro e w1 ⟨rfl, rfl⟩)
          | (go_at_call 55; (with_reducible refine (CF.out _ hr).mono ?_); rintro e w2 ⟨rfl, rfl⟩))
        go_ret
        exact ⟨rfl, Below.refl _ _⟩
    | false =>
      rw [h] at cI
      have hl : D.lgl 4 t ws = 15 := by unfold D.lgl; rw [if_pos (.inr ⟨rfl, h⟩)]
      rw [hl]
      have CI := Lib.hid cI
      clear cF cC cI hl h
      go_enter Tryz.func100, Tryz.ntmps100
      go_wp2_with (go_at_call 21; (with_reducible refine (CI.out _).mono ?_); rintro e w1 ⟨rfl, rfl⟩)
      go_ret
      exact ⟨rfl, Below.refl _ _⟩
end Go.Proofs.YtlheaabmpcnchaaGreatDoor
set_option linter.unusedVariables false
set_option linter.unusedSimpArgs false
set_option maxRecDepth 100000
namespace Go.Proofs.YtlheaabmpcnchaaGreatDoor
open Go.RowKit

theorem ext_sub (s : ByteArray) (i k : Nat) : s.extract i k = D.sb (D.sub (D.ns s) i k) := by
  rw [← D.sb_ns (s.extract i k)]
  congr 1
  unfold D.ns D.sub
  simp [List.map_drop, List.map_take, List.drop_take]
theorem ns_lt (s : ByteArray) : ∀ c ∈ D.ns s, c < 256 := by
  intro c hc
  obtain ⟨b, _, rfl⟩ := List.mem_map.1 hc
  exact b.toNat_lt
theorem sub_lt {l : List Nat} (h : ∀ c ∈ l, c < 256) (i k : Nat) : ∀ c ∈ D.sub l i k, c < 256 := fun c hc => h c (List.mem_of_mem_take (List.mem_of_mem_drop hc))
theorem prt_under : Tryz.prog.underlying 26 = some (.slice 84) := by kernel_rfl
theorem prt_info : (Tryz.prog.info? 84).map (fun i => (i.zero, i.size, i.bytes)) = some (some (.agg #[.int .i64 0, .string ⟨#[]⟩, .string ⟨#[]⟩, .slice none 0 0, .slice none 0 0]), 5, 88) := by kernel_rfl
theorem add_succ (a : Addr) (j : Nat) : a.add (j + 1) = ⟨a.block, a.off + (j + 1), none⟩ := by unfold Addr.add; simp
/-- A row of one part, newly laid. -/
theorem rw_part (w : World) (g : Nat) (hg : g = w.heap.size) (x : D.Nd) (a b : Value) (cs : Array Value) (h : cs = (pcl [(x, a, b)]).toArray) : Rw 5 (w.alloc (.cells cs 84)) (some ⟨g, 0, none⟩) 1 (pcl [(x, a, b)]) := by
  subst hg
  have := rw_new w 5 84 1 cs (by rw [h]; simp [pcl])
  rw [h] at this
  rw [h]
  simpa using this
/-- The first part of a row. -/
theorem ms_first {F : Nat → Prop} {w : World} {r : Nat} {v : Value} {y : D.Nd} {q : List D.Nd} (h : Ms F w r v (y :: q)) :
    ∃ (ad : Addr) (n c : Nat) (A1 : Option Addr) (n1 c1 : Nat) (A2 : Option Addr) (n2 c2 : Nat), v = .slice (some ad) (n + 1) c ∧ ad.block < w.heap.size ∧ w.cell? ad = some (.int .i64 (y.k : Nat)) ∧ w.cell? ⟨ad.block, ad.off + 1, none⟩ = some (.string (D.sb y.t)) ∧ w.cell? ⟨ad.block, ad.off + 2, none⟩ = some (.string (D.sb y.n)) ∧
      w.cell? ⟨ad.block, ad.off + 3, none⟩ = some (.slice A1 n1 c1) ∧ w.cell? ⟨ad.block, ad.off + 4, none⟩ = some (.slice A2 n2 c2) ∧ Bel (Kd F w r) F w y (.slice A1 n1 c1) (.slice A2 n2 c2) := by
  obtain ⟨A, n, c, vs, rfl, hc, hr, hl, hb⟩ := (Ms_eq F w r v _).1 h
  rcases vs with _ | ⟨⟨x, a, b⟩, vs⟩
  · simp at hl
  · simp at hl
    obtain ⟨rfl, _⟩ := hl
    have hlen := hr.row.len
    rw [cls_len] at hlen
    simp at hlen
    obtain ⟨ad, rfl, hlt, hcell⟩ := hr.row.to (by omega)
    obtain ⟨m, rfl⟩ : ∃ m, n = m + 1 := ⟨n - 1, by omega⟩
    obtain ⟨c0, c1, c2, c3, c4⟩ := cls_at (l := (x, a, b) :: vs) (i := 0) rfl
    obtain ⟨h1, h2, h3⟩ := hb 0 x a b rfl
    have e := hcell 0 _ c0
    rw [add_zero_] at e
    obtain ⟨A1, n1, d1, rfl, _⟩ := h3.2.1
    obtain ⟨A2, n2, d2, us, rfl, _⟩ := h3.2.2
    refine ⟨ad, m, c, A1, n1, d1, A2, n2, d2, rfl, hlt, e, ?_, ?_, ?_, ?_, h3⟩
    · rw [← add_succ ad 0]; exact hcell 1 _ c1
    · rw [← add_succ ad 1]; exact hcell 2 _ c2
    · rw [← add_succ ad 2]; exact hcell 3 _ c3
    · rw [← add_succ ad 3]; exact hcell 4 _ c4
theorem ow_below {T : TypeId} {sz base n c : Nat} {w w' : World} {A : Option Addr} {xs : List Value} (h : Ow T sz base w A n c xs) (hg : w.grownBy w' (Value.slice A n c).ownBlock) : Below base w w' :=
  ⟨hg.os, hg.tape, hg.output, hg.size, fun i hi => hg.block i (Nat.lt_of_lt_of_le hi h.base) fun e => by
    have := (h.lt i e.symm).1
    omega⟩
theorem Ac.own_lt {T : TypeId} {r base n c : Nat} {w : World} {A : Option Addr} {l : List D.Nd} (h : Ac T r base w A n c l) : ∀ k, (Value.slice A n c).ownBlock = some k → base ≤ k ∧ k < w.heap.size := by
  obtain ⟨vs, ho, _⟩ := h.out
  exact ho.lt
/-- append of one part. -/
theorem papp {ops : Array Oper} {rest : List Oper} {o : Oper} {act : Act} {Q : Exit → Act → World → Prop} (hgd : o.guard = none) (s x : Operand)
    (hop : o.op = .call { callee := .builtin .append, args := #[s, x], argTypes := #[26, 26] })
    {r base : Nat} {A B : Option Addr} {n c d : Nat} {l : List D.Nd} {y : D.Nd} {a b : Value} {w : World} (hes : act.eval s = .slice A n c) (h : Ac 84 r base w A n c l) (hx : act.eval x = .slice B 1 d) (hr : Rw 5 w B 1 (pcl [(y, a, b)]))
    (ha : a.oneCell' = true) (hb : b.oneCell' = true) (hB : Bel (Kd (Fo base (Value.slice A n c).ownBlock) w r) (Fo base (Value.slice A n c).ownBlock) w y a b) (hn : n + 1 ≤ 1000000)
    (k : ∀ A' c' w', Ac 84 r base w' A' (n + 1) c' (l ++ [y]) → Below base w w' → w.grownBy w' (Value.slice A n c).ownBlock → wpList Tryz.prog ops Q rest (act.put o.dst (.slice A' (n + 1) c')) w') : wpList Tryz.prog ops Q (o :: rest) act w := by
  obtain ⟨vs, hov, hl, hv⟩ := h.out
  refine gapp w prt_under prt_info rfl (by decide) (by decide) hgd s x hop hes hov hx hr (cls_one _ fun i z p q hi => ?_) hn fun A' c' w' h1 h2 h3 => k A' c' w' (Ac.snoc hl hv ha hb hB h2 h3 h1) (ow_below hov h2) h2
  rcases i with _ | i
  · simp at hi
    obtain ⟨rfl, rfl, rfl⟩ := hi
    exact ⟨ha, hb⟩
  · simp at hi
end Go.Proofs.YtlheaabmpcnchaaGreatDoor
