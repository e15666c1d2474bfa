/-
  The program's words: what its variable holds; Word, Read.
-/
import Derived.Test.YtpiajeonnhfanaaDoorPls
set_option linter.unusedVariables false
set_option linter.unusedSimpArgs false
set_option maxRecDepth 100000
namespace Go.Proofs.YtpiajeonnhfanaaDoor
open Go.RowKit
attribute [local go_sem ↓] Go.wp_at_zero Go.wp_at_succ

/-- What the variable of words holds. -/
structure Env (w : World) : Prop where
  c0 : w.cell? ⟨0, 0, none⟩ = some (.string ⟨#[122, 101, 114, 111]⟩)
  c1 : w.cell? ⟨0, 1, none⟩ = some (.string ⟨#[111, 110, 101]⟩)
  c2 : w.cell? ⟨0, 2, none⟩ = some (.string ⟨#[116, 119, 111]⟩)
  c3 : w.cell? ⟨0, 3, none⟩ = some (.string ⟨#[102, 101, 119]⟩)
  c4 : w.cell? ⟨0, 4, none⟩ = some (.string ⟨#[109, 97, 110, 121]⟩)
  c5 : w.cell? ⟨0, 5, none⟩ = some (.string ⟨#[111, 116, 104, 101, 114]⟩)
theorem cell_kept_ {w w' : World} (hb : Below w.heap.size w w') {a : Addr} {v : Value} (h : w.cell? a = some v) : w'.cell? a = some v := (World.cell?_of_block (hb.block _ (World.block_lt_of_cell? w _ h))).trans h
theorem Env.on {w w' : World} (h : Env w) (hb : Below w.heap.size w w') : Env w' := ⟨cell_kept_ hb h.c0, cell_kept_ hb h.c1, cell_kept_ hb h.c2, cell_kept_ hb h.c3, cell_kept_ hb h.c4, cell_kept_ hb h.c5⟩
theorem word_any (c : Int) (w : World) (hE : Env w) : Calls Tryd.prog 14 #[.int .i64 c] w fun e w' => e = .returned (.string (D.sb (D.wrd c))) ∧ w = w' := by
  have cT := Lib.hid (fun W => there_any c W)
  by_cases h : 0 ≤ c ∧ c < 6
  · rw [decide_eq_true h] at cT
    obtain ⟨c0, c1, c2, c3, c4, c5⟩ := hE
    obtain rfl | rfl | rfl | rfl | rfl | rfl : c = 0 ∨ c = 1 ∨ c = 2 ∨ c = 3 ∨ c = 4 ∨ c = 5 := by omega
    all_goals
      go_enter Tryd.func14, Tryd.ntmps14
      go_wp2_with (go_at_call 24; (with_reducible refine (cT.out _).mono ?_); rintro e w1 ⟨rfl, rfl⟩)
      go_ret
      exact ⟨by rfl, by rfl⟩
  · rw [decide_eq_false h] at cT
    have hw : D.wrd c = [] := by unfold D.wrd; rw [if_neg (by omega)]
    rw [hw]
    clear h hE hw
    go_enter Tryd.func14, Tryd.ntmps14
    go_wp2_with (go_at_call 24; (with_reducible refine (cT.out _).mono ?_); rintro e w1 ⟨rfl, rfl⟩)
    go_ret
    exact ⟨by rfl, by rfl⟩
/-- The category of a word. -/
def D.rdw (l : List Nat) : Option Nat := (List.range 6).find? fun i => decide (D.wrds.getD i [] = l)
theorem D.rdw_some {k : Nat} (hk : k < 6) {l : List Nat} (h : D.wrds.getD k [] = l) : D.rdw l = some k := by
  subst h
  have : ∀ k : Fin 6, D.rdw (D.wrds.getD k.1 []) = some k.1 := by decide
  exact this ⟨k, hk⟩
theorem D.rdw_none {l : List Nat} (h : ∀ j, j < 6 → D.wrds.getD j [] ≠ l) : D.rdw l = none := by
  unfold D.rdw
  rw [List.find?_eq_none]
  intro j hj
  have := h j (by simpa using hj)
  simpa using this
def D.rda (l : List Nat) : Nat × Nat := match D.rdw l with
  | some k => (k, 0)
  | none => (0, 15)
theorem wtest (u : List UInt8) (l : List Nat) (s : ByteArray) (h : u.map (·.toNat) = l) : (u == s.toList) = decide (l = D.ns s) := by
  have := txt_test s u l h
  rw [Bool.eq_iff_iff, beq_iff_eq, decide_eq_true_eq] at this ⊢
  exact ⟨fun e => (this.1 e.symm).symm, fun e => (this.2 e.symm).symm⟩
set_option maxHeartbeats 2000000 in
theorem read_any (s : ByteArray) (w : World) (hE : Env w) : Calls Tryd.prog 16 #[.string s] w fun e w' => e = .returned (.tuple #[.int .i64 (D.rda (D.ns s)).1, .int .i64 (D.rda (D.ns s)).2]) ∧ w = w' := by
  obtain ⟨c0, c1, c2, c3, c4, c5⟩ := hE
  go_enter Tryd.func16, Tryd.ntmps16
  go_wp2
  go_loopw [5] (fun i wr => ∃ k : Nat, k ≤ 6 ∧ i = .int .i64 k ∧ Kept (∀ j, j < k → D.wrds.getD j [] ≠ D.ns s) ∧ wr = w) (fun i _ => 6 - (intOf i).toNat)
  case atStart => exact ⟨0, Nat.zero_le _, rfl, ⟨fun j hj => by omega⟩, rfl⟩
  case round =>
    obtain ⟨k, hk, rfl, HN, rfl⟩ := hrel
    by_cases hlt : k < 6
    · obtain ⟨b, hb⟩ : ∃ b, decide (D.wrds.getD k [] = D.ns s) = b := ⟨_, rfl⟩
      have t0 : k = 0 → (([122, 101, 114, 111] : List UInt8) == s.toList) = b := fun e => by subst e; exact (wtest _ _ s rfl).trans hb
      have t1 : k = 1 → (([111, 110, 101] : List UInt8) == s.toList) = b := fun e => by subst e; exact (wtest _ _ s rfl).trans hb
      have t2 : k = 2 → (([116, 119, 111] : List UInt8) == s.toList) = b := fun e => by subst e; exact (wtest _ _ s rfl).trans hb
      have t3 : k = 3 → (([102, 101, 119] : List UInt8) == s.toList) = b := fun e => by subst e; exact (wtest _ _ s rfl).trans hb
      have t4 : k = 4 → (([109, 97, 110, 121] : List UInt8) == s.toList) = b := fun e => by subst e; exact (wtest _ _ s rfl).trans hb
      have t5 : k = 5 → (([111, 116, 104, 101, 114] : List UInt8) == s.toList) = b := fun e => by subst e; exact (wtest _ _ s rfl).trans hb
      cases b with
      | true =>
        have HA : Kept (D.rda (D.ns s) = (k, 0)) := ⟨by unfold D.rda; rw [D.rdw_some hlt (of_decide_eq_true hb)]⟩
        clear HN hb
        obtain rfl | rfl | rfl | rfl | rfl | rfl : k = 0 ∨ k = 1 ∨ k = 2 ∨ k = 3 ∨ k = 4 ∨ k = 5 := by omega
        · have t := t0 rfl
          clear t0 t1 t2 t3 t4 t5
          go_wp2
          go_ret2
          exact ⟨by rw [HA.out]; rfl, rfl⟩
        · have t := t1 rfl
          clear t0 t1 t2 t3 t4 t5
          go_wp2
          go_ret2
          exact ⟨by rw [HA.out]; rfl, rfl⟩
        · have t := t2 rfl
          clear t0 t1 t2 t3 t4 t5
          go_wp2
          go_ret2
          exact ⟨by rw [HA.out]; rfl, rfl⟩
        · have t := t3 rfl
          clear t0 t1 t2 t3 t4 t5
          go_wp2
          go_ret2
          exact ⟨by rw [HA.out]; rfl, rfl⟩
        · have t := t4 rfl
          clear t0 t1 t2 t3 t4 t5
          go_wp2
          go_ret2
          exact ⟨by rw [HA.out]; rfl, rfl⟩
        · have t := t5 rfl
          clear t0 t1 t2 t3 t4 t5
          go_wp2
          go_ret2
          exact ⟨by rw [HA.out]; rfl, rfl⟩
      | false =>
        have HN' : Kept (∀ j, j < k + 1 → D.wrds.getD j [] ≠ D.ns s) := ⟨fun j hj => by
          obtain h | rfl : j < k ∨ j = k := by omega
          · exact HN.out j h
          · exact of_decide_eq_false hb⟩
        clear HN hb
        obtain rfl | rfl | rfl | rfl | rfl | rfl : k = 0 ∨ k = 1 ∨ k = 2 ∨ k = 3 ∨ k = 4 ∨ k = 5 := by omega
        · have t := t0 rfl
          clear t0 t1 t2 t3 t4 t5
          go_wp2
          go_roundw
          case rel => exact ⟨1, by omega, rfl, HN', trivial⟩
          case measure => simp [intOf]
        · have t := t1 rfl
          clear t0 t1 t2 t3 t4 t5
          go_wp2
          go_roundw
          case rel => exact ⟨2, by omega, rfl, HN', trivial⟩
          case measure => simp [intOf]
        · have t := t2 rfl
          clear t0 t1 t2 t3 t4 t5
          go_wp2
          go_roundw
          case rel => exact ⟨3, by omega, rfl, HN', trivial⟩
          case measure => simp [intOf]
        · have t := t3 rfl
          clear t0 t1 t2 t3 t4 t5
          go_wp2
          go_roundw
          case rel => exact ⟨4, by omega, rfl, HN', trivial⟩
          case measure => simp [intOf]
        · have t := t4 rfl
          clear t0 t1 t2 t3 t4 t5
          go_wp2
          go_roundw
          case rel => exact ⟨5, by omega, rfl, HN', trivial⟩
          case measure => simp [intOf]
        · have t := t5 rfl
          clear t0 t1 t2 t3 t4 t5
          go_wp2
          go_roundw
          case rel => exact ⟨6, by omega, rfl, HN', trivial⟩
          case measure => simp [intOf]
    · obtain rfl : k = 6 := by omega
      have HA : Kept (D.rda (D.ns s) = (0, 15)) := ⟨by unfold D.rda; rw [D.rdw_none HN.out]⟩
      clear HN
      go_wp2
      go_ret2
      exact ⟨by rw [HA.out]; rfl, rfl⟩
end Go.Proofs.YtpiajeonnhfanaaDoor
