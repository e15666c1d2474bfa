/-
  The document's sets and words.
-/
import Derived.Test.YtpiajeonnhfanaaDoorPld
import Derived.Test.YtpiajeonnhfanaaDoorGn
set_option linter.unusedVariables false
set_option linter.unusedSimpArgs false
set_option maxRecDepth 100000
namespace Go.Proofs.YtpiajeonnhfanaaDoor
open Go.RowKit
attribute [local go_sem ↓] Go.wp_at_zero Go.wp_at_succ
theorem rword_any (c : Int) (w : World) : Calls Tryd.prog 15 #[.int .i64 c] w fun e w' => e = .returned (.string (D.sb (D.wrd c))) ∧ Below w.heap.size w w' := by
  have B := Blk.new w 9 #[.string ⟨#[122, 101, 114, 111]⟩, .string ⟨#[111, 110, 101]⟩, .string ⟨#[116, 119, 111]⟩, .string ⟨#[102, 101, 119]⟩, .string ⟨#[109, 97, 110, 121]⟩, .string ⟨#[111, 116, 104, 101, 114]⟩]
  have z := below_alloc_ w (.cells #[.string ⟨#[122, 101, 114, 111]⟩, .string ⟨#[111, 110, 101]⟩, .string ⟨#[116, 119, 111]⟩, .string ⟨#[102, 101, 119]⟩, .string ⟨#[109, 97, 110, 121]⟩, .string ⟨#[111, 116, 104, 101, 114]⟩] 9)
  by_cases h : 0 ≤ c
  · by_cases h2 : c ≤ 5
    · obtain rfl | rfl | rfl | rfl | rfl | rfl : c = 0 ∨ c = 1 ∨ c = 2 ∨ c = 3 ∨ c = 4 ∨ c = 5 := by omega
      all_goals
        clear B h h2
        go_enter Tryd.func15, Tryd.ntmps15
        go_wp2
        go_ret
        exact ⟨by rfl, z⟩
    · have hw : D.wrd c = [] := by unfold D.wrd; rw [if_neg (by omega)]
      rw [hw]
      have i1 : 5 < c := by omega
      clear h2 hw B
      go_enter Tryd.func15, Tryd.ntmps15
      go_wp2
      go_ret
      exact ⟨by rfl, z⟩
  · have hw : D.wrd c = [] := by unfold D.wrd; rw [if_neg (by omega)]
    rw [hw]
    have i1 : c < 0 := by omega
    clear h hw B
    go_enter Tryd.func15, Tryd.ntmps15
    go_wp2
    go_ret
    exact ⟨by rfl, z⟩
/-- Bools' cells. -/
def bls (l : List Bool) : Array Value := (l.map Value.bool).toArray
theorem bls_size (l : List Bool) : (bls l).size = l.length := by simp [bls]
theorem bls_set (l : List Bool) (i : Nat) (b : Bool) : (bls l).setIfInBounds i (.bool b) = bls (l.set i b) := by
  unfold bls
  rw [List.map_set, List.setIfInBounds_toArray]
abbrev f6 : Array Value := #[.bool false, .bool false, .bool false, .bool false, .bool false, .bool false]
set_option maxHeartbeats 4000000 in
theorem rset_any (g : Nat) (w : World) (hg : g ≤ 7) : Calls Tryd.prog 12 #[.int .i64 g] w fun e w' => e = .returned (.agg (bls ((List.range 6).map (D.inn g)))) ∧ Below w.heap.size w w' := by
  have cO := Lib.hid (fun k (hk : k < 18446744073709551616) W => dof_any g k W hg hk)
  have HK : Kept (D.seen g 300 = (List.range 6).map (D.inn g)) := ⟨D.seen_all hg⟩
  have hl : (List.range 6).map (D.inn g) = [D.inn g 0, D.inn g 1, D.inn g 2, D.inn g 3, D.inn g 4, D.inn g 5] := rfl
  rw [hl] at HK ⊢
  clear hl
  obtain ⟨i0, h0⟩ : ∃ b, D.inn g 0 = b := ⟨_, rfl⟩
  obtain ⟨i1, h1⟩ : ∃ b, D.inn g 1 = b := ⟨_, rfl⟩
  obtain ⟨i2, h2⟩ : ∃ b, D.inn g 2 = b := ⟨_, rfl⟩
  obtain ⟨i3, h3⟩ : ∃ b, D.inn g 3 = b := ⟨_, rfl⟩
  obtain ⟨i4, h4⟩ : ∃ b, D.inn g 4 = b := ⟨_, rfl⟩
  obtain ⟨i5, h5⟩ : ∃ b, D.inn g 5 = b := ⟨_, rfl⟩
  rw [h0, h1, h2, h3, h4, h5] at HK ⊢
  clear h0 h1 h2 h3 h4 h5
  go_enter Tryd.func12, Tryd.ntmps12
  go_wp2_with fail
  go_loopw [4] (fun i wr => ∃ k : Nat, k ≤ 300 ∧ i = .int .u64 k ∧ Blk wr w.heap.size 33 f6 ∧ Blk wr (w.heap.size + 1) 33 (bls (D.seen g k)) ∧ Below w.heap.size w wr) (fun i _ => 300 - (intOf i).toNat)
  case atStart =>
    refine ⟨0, Nat.zero_le _, rfl, (Blk.new _ _ _).alloc _, ?_, ((Below.refl _ _).alloc (Nat.le_refl _) _).alloc (by simp) _⟩
    have := Blk.new (w.alloc (.cells f6 33)) 33 (bls (D.seen g 0))
    rw [World.size_alloc] at this
    exact this
  case round =>
    obtain ⟨k, hk, rfl, B0, B1, zr⟩ := hrel
    by_cases hlt : k < 300
    · have hv := D.pof_le g k
      have hp := B1.put (D.pof g k) (.bool true)
      rw [bls_set] at hp
      have hp' : Kept (Blk (wr.setCell ⟨w.heap.size + 1, D.pof g k, none⟩ (.bool true)) (w.heap.size + 1) 33 (bls (D.seen g (k + 1)))) := ⟨hp⟩
      have hf := B1.f (D.pof g k)
      have hc : ∃ v, wr.cell? ⟨w.heap.size + 1, D.pof g k, none⟩ = some v := by
        rw [B1.c]
        exact ⟨_, Array.getElem?_eq_getElem (by rw [bls_size, D.seen_len]; omega)⟩
      obtain ⟨v0, hc⟩ := hc
      have h0 := B0.far (p := ⟨w.heap.size + 1, D.pof g k, none⟩) (by show w.heap.size ≠ w.heap.size + 1; omega) (.bool true)
      have z1 := zr.setCell (p := ⟨w.heap.size + 1, D.pof g k, none⟩) (by show w.heap.size ≤ w.heap.size + 1; omega) (.bool true)
      have C := cO.out k (by omega) wr
      obtain ⟨v, hvv⟩ : ∃ v, D.pof g k = v := ⟨_, rfl⟩
      rw [hvv] at hv hp' hf hc h0 z1 C
      have CC := Lib.hid C
      have hI : (v : Int) < 6 := by omega
      have hK : (k : Int) < 300 := by omega
      clear C hvv hp B0 B1 zr hv
      go_wp2_with (go_at_call 9; (with_reducible refine CC.out.mono ?_); rintro e w3 ⟨rfl, rfl⟩)
      go_roundw
      case rel => exact ⟨k + 1, by omega, by go_num, h0, hp'.out, z1⟩
      case measure => simp [intOf]; omega
    · obtain rfl : k = 300 := by omega
      rw [HK.out] at B1
      have c0 : wr.cell? ⟨w.heap.size + 1, 0, none⟩ = some (.bool i0) := B1.c 0
      have c1 : wr.cell? ⟨w.heap.size + 1, 1, none⟩ = some (.bool i1) := B1.c 1
      have c2 : wr.cell? ⟨w.heap.size + 1, 2, none⟩ = some (.bool i2) := B1.c 2
      have c3 : wr.cell? ⟨w.heap.size + 1, 3, none⟩ = some (.bool i3) := B1.c 3
      have c4 : wr.cell? ⟨w.heap.size + 1, 4, none⟩ = some (.bool i4) := B1.c 4
      have c5 : wr.cell? ⟨w.heap.size + 1, 5, none⟩ = some (.bool i5) := B1.c 5
      have d0 : wr.cell? ⟨w.heap.size, 0, none⟩ = some (.bool false) := B0.c 0
      have d1 : wr.cell? ⟨w.heap.size, 1, none⟩ = some (.bool false) := B0.c 1
      have d2 : wr.cell? ⟨w.heap.size, 2, none⟩ = some (.bool false) := B0.c 2
      have d3 : wr.cell? ⟨w.heap.size, 3, none⟩ = some (.bool false) := B0.c 3
      have d4 : wr.cell? ⟨w.heap.size, 4, none⟩ = some (.bool false) := B0.c 4
      have d5 : wr.cell? ⟨w.heap.size, 5, none⟩ = some (.bool false) := B0.c 5
      have g0 := B0.f 0
      have g1 := B0.f 1
      have g2 := B0.f 2
      have g3 := B0.f 3
      have g4 := B0.f 4
      have g5 := B0.f 5
      have K := ((((((B0.put 0 (.bool i0)).put 1 (.bool i1)).put 2 (.bool i2)).put 3 (.bool i3)).put 4 (.bool i4)).put 5 (.bool i5))
      have z9 := (((((zr.setCell (p := ⟨w.heap.size, 0, none⟩) (Nat.le_refl _) (.bool i0)).setCell (p := ⟨w.heap.size, 1, none⟩) (Nat.le_refl _) (.bool i1)).setCell (p := ⟨w.heap.size, 2, none⟩) (Nat.le_refl _) (.bool i2)).setCell (p := ⟨w.heap.size, 3, none⟩) (Nat.le_refl _) (.bool i3)).setCell (p := ⟨w.heap.size, 4, none⟩) (Nat.le_refl _) (.bool i4)).setCell (p := ⟨w.heap.size, 5, none⟩) (Nat.le_refl _) (.bool i5)
      have e0 := K.c 0
      have e1 := K.c 1
      have e2 := K.c 2
      have e3 := K.c 3
      have e4 := K.c 4
      have e5 := K.c 5
      clear B0 B1 hk hlt cO K zr
      go_wp2
      exact bodyPost_ret (v := .agg #[.bool i0, .bool i1, .bool i2, .bool i3, .bool i4, .bool i5]) (by rw [results_cell1 rfl]; simp [asAddr, Result.andThen, go_sem, *]) rfl ⟨rfl, z9⟩
end Go.Proofs.YtpiajeonnhfanaaDoor
