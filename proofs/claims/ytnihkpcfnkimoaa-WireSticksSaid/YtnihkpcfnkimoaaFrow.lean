/-
  Rows of fields in memory; the document's Write; the law's Right.
-/
import Derived.Test.YtnihkpcfnkimoaaRefW
import Derived.Test.YtnihkpcfnkimoaaLput
set_option linter.unusedVariables false
set_option linter.unusedSimpArgs false
namespace Go.Proofs.Ytnihkpcfnkimoaa
open Go.RowKit
attribute [local go_sem ↓] Go.wp_at_zero Go.wp_at_succ

/-- A slice of fields, nil let in. -/
structure FRow (w : World) (A : Option Addr) (n : Nat) (l : List D.Fd) : Prop where
  len : l.length = n
  to : 0 < n → ∃ ad, A = some ad ∧ ad.block < w.heap.size ∧ ∀ i f, l[i]? = some f →
    w.cell? (ad.add (i * 3)) = some (.int .i64 f.k) ∧ w.cell? (ad.add (i * 3 + 1)) = some (.int .u64 f.n) ∧ w.cell? (ad.add (i * 3 + 2)) = some (.string f.s)
theorem FRow.only {S : Nat → Prop} {w w' : World} {A : Option Addr} {n : Nat} {l : List D.Fd} (h : FRow w A n l) (k : Only S w w') (hA : ∀ ad, A = some ad → ¬ S ad.block) : FRow w' A n l := ⟨h.len, fun hn => by
  obtain ⟨ad, e, hl, hc⟩ := h.to hn
  have hb := k.block ad.block hl (hA ad e)
  refine ⟨ad, e, Nat.lt_of_lt_of_le hl k.size, fun i f hf => ?_⟩
  obtain ⟨h1, h2, h3⟩ := hc i f hf
  exact ⟨(World.cell?_of_block (w := w) (by rw [block_of_add]; exact hb)).trans h1, (World.cell?_of_block (w := w) (by rw [block_of_add]; exact hb)).trans h2, (World.cell?_of_block (w := w) (by rw [block_of_add]; exact hb)).trans h3⟩⟩
theorem FRow.on {w w' : World} {A : Option Addr} {n : Nat} {l : List D.Fd} (h : FRow w A n l) (hb : Below w.heap.size w w') : FRow w' A n l := h.only (S := fun _ => False) (only_below hb) (fun _ _ h => h)
theorem add_off (a : Addr) (i j : Nat) : a.add (i + (j + 1)) = ⟨(a.add i).block, (a.add i).off + (j + 1), none⟩ := by
  unfold Addr.add
  by_cases hi : i = 0
  · subst hi; simp
  · simp [hi, Nat.add_assoc]
theorem FRow.at_ {w : World} {A : Option Addr} {n i : Nat} {l : List D.Fd} {f : D.Fd} (h : FRow w A n l) (hf : l[i]? = some f) : ∃ ad, A = some ad ∧
    w.cell? (ad.add (i * 3)) = some (.int .i64 f.k) ∧ w.cell? ⟨(ad.add (i * 3)).block, (ad.add (i * 3)).off + 1, none⟩ = some (.int .u64 f.n) ∧ w.cell? ⟨(ad.add (i * 3)).block, (ad.add (i * 3)).off + 2, none⟩ = some (.string f.s) := by
  obtain ⟨ad, e, _, hc⟩ := h.to (by have := (List.getElem?_eq_some_iff.1 hf).1; have := h.len; omega)
  obtain ⟨h0, h1, h2⟩ := hc i f hf
  exact ⟨ad, e, h0, by rw [← add_off ad (i * 3) 0]; exact h1, by rw [← add_off ad (i * 3) 1]; exact h2⟩
theorem fat_lt {l : List D.Fd} {i : Nat} (h : i < l.length) : ∃ f, l[i]? = some f ∧ f ∈ l := ⟨l[i], List.getElem?_eq_getElem h, List.getElem_mem h⟩

set_option maxHeartbeats 400000 in
theorem ref_write (A : Option Addr) (n c : Nat) (l : List D.Fd) (w : World) (r : Int) (ha : FRow w A n l) (hl : Kept (∀ f ∈ l, f.ok)) (hn : n ≤ 20) (h1 : -9223372036854775808 ≤ r) (h2 : r ≤ 9223372036854775807) :
    Calls Try.prog 13 #[.slice A n c, .int .i64 r] w (Told (D.writes r.toNat ⟨[], 0⟩ l) w) := by
  rcases Int.lt_or_le r 0 with hr | hr
  · rw [show r.toNat = 0 by omega]
    go_enter Try.func13, Try.ntmps13
    go_wp2
    go_loopw [6, 7] (fun o i wr => ∃ (k j d : Nat) (B : Option Addr) (out : List Nat), k ≤ n ∧ i = .int .i64 k ∧ o = .slice B j d ∧ Own w.heap.size wr B j d out ∧ Kept (D.writes 0 ⟨[], 0⟩ (l.take k) = ⟨out, 0⟩) ∧ Below w.heap.size w wr) (fun _ i _ => n - (intOf i).toNat)
    case atStart => exact ⟨0, 0, 0, none, [], Nat.zero_le _, rfl, rfl, Own.nil (Nat.le_refl _), ⟨rfl⟩, Below.refl _ _⟩
    case round =>
      obtain ⟨k, j, d, B, out, hk, rfl, rfl, HO, HK, hbel⟩ := hrel
      have hlen := ha.len
      have hol := HO.len
      have hj : j ≤ 5000 := by
        have := D.writes_out (room := 0) (l.take k) ⟨[], 0⟩ fun f hf => hl.out f (List.mem_of_mem_take hf)
        rw [HK.out] at this
        simp at this
        omega
      by_cases hlt : k < n
      · obtain ⟨f, hf, hfm⟩ := fat_lt (l := l) (i := k) (by omega)
        have hfo := hl.out f hfm
        obtain ⟨ad, rfl, c0, c1, c2⟩ := (ha.on hbel).at_ hf
        have hfl := (D.enc_len hfo).2
        obtain ⟨y, hy⟩ : ∃ y, (D.enc f).length = y := ⟨_, rfl⟩
        rw [hy] at hfl
        have cB : Hid (∀ W, Calls Try.prog 33 #[.agg #[.int .i64 f.k, .int .u64 f.n, .string f.s]] W fun e w' => ∃ A c, e = .returned (.slice A y c) ∧ Own W.heap.size w' A y c (D.enc f) ∧ Below W.heap.size W w') := fun W => by
          have := ref_bytes f W hfo
          unfold Made at this
          rw [hy] at this
          exact this
        by_cases hfit : 0 < j + y
        · have HB : Kept (D.writes 0 ⟨[], 0⟩ l = ⟨out, 2⟩) := ⟨by rw [D.writes_split _ _ l (k + 1), D.writes_next hf, HK.out, D.wput_long rfl (by simp only; omega)]; exact D.writes_stuck _ (by simp)⟩
          have hcmp : (0 : Int) - (j : Int) < (y : Int) := by omega
          clear hlen hol hf hy hfit
          go_wp2_with (go_at_call 33; (with_reducible refine (cB.out _).mono ?_); rintro e w1 ⟨A1, c1', rfl, ho1, hb1⟩)
          go_ret2
          exact ⟨none, 0, 0, by rw [HB.out]; rfl, by rw [HB.out]; exact Row.nil _ _, Nat.le_refl _, Nat.zero_le _, hbel.trans (hb1.mono hbel.size)⟩
        · have HB : Kept (D.writes 0 ⟨[], 0⟩ (l.take (k + 1)) = ⟨out ++ D.enc f, 0⟩) := ⟨by rw [D.writes_next hf, HK.out, D.wput_fits rfl (by simp only; omega)]⟩
          have hcmp : ¬ (0 : Int) - (j : Int) < (y : Int) := by omega
          clear hlen hol hf hy hfit
          go_wp2_with (first
            | (go_at_call 33; (with_reducible refine (cB.out _).mono ?_); rintro e w1 ⟨A1, c1', rfl, ho1, hb1⟩; have q1 : j + y ≤ 1000000 := (by omega); have q2 := HO.more hb1; have q3 := ho1.to_row)
            | (at_builtin; refine app _ rfl (.tmp 29) (.tmp 30) (by rfl) (by rfl) q2 (by rfl) q3 q1 ?_; intro A2 c2' w2 ho2 hg2 hat2))
          go_roundw
          case rel => exact ⟨k + 1, j + y, c2', A2, _, by omega, by go_num, rfl, ho2, HB, fin_grown (hbel.trans (hb1.mono hbel.size)) q2 (Nat.le_refl _) hg2⟩
          case measure => simp [intOf]; omega
      · have HB : Kept (D.writes 0 ⟨[], 0⟩ l = ⟨out, 0⟩) := ⟨by rw [← HK.out, List.take_of_length_le (by omega)]⟩
        clear hlen hol
        go_wp2
        go_ret2
        exact ⟨B, j, d, by rw [HB.out]; rfl, by rw [HB.out]; exact HO.to_row, HO.cap.1, HO.cap.2, hbel⟩
  · obtain ⟨m, rfl⟩ : ∃ m : Nat, r = m := ⟨r.toNat, by omega⟩
    rw [Int.toNat_natCast]
    have hm63 : m ≤ 9223372036854775807 := by omega
    go_enter Try.func13, Try.ntmps13
    go_wp2
    go_loopw [6, 7] (fun o i wr => ∃ (k j d : Nat) (B : Option Addr) (out : List Nat), k ≤ n ∧ i = .int .i64 k ∧ o = .slice B j d ∧ Own w.heap.size wr B j d out ∧ Kept (D.writes m ⟨[], 0⟩ (l.take k) = ⟨out, 0⟩) ∧ Below w.heap.size w wr) (fun _ i _ => n - (intOf i).toNat)
    case atStart => exact ⟨0, 0, 0, none, [], Nat.zero_le _, rfl, rfl, Own.nil (Nat.le_refl _), ⟨rfl⟩, Below.refl _ _⟩
    case round =>
      obtain ⟨k, j, d, B, out, hk, rfl, rfl, HO, HK, hbel⟩ := hrel
      have hlen := ha.len
      have hol := HO.len
      have hj : j ≤ 5000 := by
        have := D.writes_out (room := m) (l.take k) ⟨[], 0⟩ fun f hf => hl.out f (List.mem_of_mem_take hf)
        rw [HK.out] at this
        simp at this
        omega
      by_cases hlt : k < n
      · obtain ⟨f, hf, hfm⟩ := fat_lt (l := l) (i := k) (by omega)
        have hfo := hl.out f hfm
        obtain ⟨ad, rfl, c0, c1, c2⟩ := (ha.on hbel).at_ hf
        have hfl := (D.enc_len hfo).2
        obtain ⟨y, hy⟩ : ∃ y, (D.enc f).length = y := ⟨_, rfl⟩
        rw [hy] at hfl
        have cB : Hid (∀ W, Calls Try.prog 33 #[.agg #[.int .i64 f.k, .int .u64 f.n, .string f.s]] W fun e w' => ∃ A c, e = .returned (.slice A y c) ∧ Own W.heap.size w' A y c (D.enc f) ∧ Below W.heap.size W w') := fun W => by
          have := ref_bytes f W hfo
          unfold Made at this
          rw [hy] at this
          exact this
        by_cases hfit : m < j + y
        · have HB : Kept (D.writes m ⟨[], 0⟩ l = ⟨out, 2⟩) := ⟨by rw [D.writes_split _ _ l (k + 1), D.writes_next hf, HK.out, D.wput_long rfl (by simp only; omega)]; exact D.writes_stuck _ (by simp)⟩
          have hcmp : (m : Int) - (j : Int) < (y : Int) := by omega
          clear hlen hol hf hy hfit
          go_wp2_with (go_at_call 33; (with_reducible refine (cB.out _).mono ?_); rintro e w1 ⟨A1, c1', rfl, ho1, hb1⟩)
          go_ret2
          exact ⟨none, 0, 0, by rw [HB.out]; rfl, by rw [HB.out]; exact Row.nil _ _, Nat.le_refl _, Nat.zero_le _, hbel.trans (hb1.mono hbel.size)⟩
        · have HB : Kept (D.writes m ⟨[], 0⟩ (l.take (k + 1)) = ⟨out ++ D.enc f, 0⟩) := ⟨by rw [D.writes_next hf, HK.out, D.wput_fits rfl (by simp only; omega)]⟩
          have hcmp : ¬ (m : Int) - (j : Int) < (y : Int) := by omega
          clear hlen hol hf hy hfit
          go_wp2_with (first
            | (go_at_call 33; (with_reducible refine (cB.out _).mono ?_); rintro e w1 ⟨A1, c1', rfl, ho1, hb1⟩; have q1 : j + y ≤ 1000000 := (by omega); have q2 := HO.more hb1; have q3 := ho1.to_row)
            | (at_builtin; refine app _ rfl (.tmp 29) (.tmp 30) (by rfl) (by rfl) q2 (by rfl) q3 q1 ?_; intro A2 c2' w2 ho2 hg2 hat2))
          go_roundw
          case rel => exact ⟨k + 1, j + y, c2', A2, _, by omega, by go_num, rfl, ho2, HB, fin_grown (hbel.trans (hb1.mono hbel.size)) q2 (Nat.le_refl _) hg2⟩
          case measure => simp [intOf]; omega
      · have HB : Kept (D.writes m ⟨[], 0⟩ l = ⟨out, 0⟩) := ⟨by rw [← HK.out, List.take_of_length_le (by omega)]⟩
        clear hlen hol
        go_wp2
        go_ret2
        exact ⟨B, j, d, by rw [HB.out]; rfl, by rw [HB.out]; exact HO.to_row, HO.cap.1, HO.cap.2, hbel⟩
end Go.Proofs.Ytnihkpcfnkimoaa
