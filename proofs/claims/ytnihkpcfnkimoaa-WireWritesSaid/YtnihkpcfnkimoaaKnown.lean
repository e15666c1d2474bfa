/-
  What the document's reader reads of any field; and the chapter's example.
-/
import Derived.Test.YtnihkpcfnkimoaaRefR
import Derived.Test.YtnihkpcfnkimoaaEnd
import Derived.Test.YtnihkpcfnkimoaaRight
set_option linter.unusedVariables false
set_option linter.unusedSimpArgs false
namespace Go.Proofs.Ytnihkpcfnkimoaa
open Go.RowKit
attribute [local go_sem ↓] Go.wp_at_zero Go.wp_at_succ

theorem ref_read (B : Option Addr) (n c : Nat) (w : World) (f : D.Fd) (r : List Nat) (e : Nat) (hk0 : 0 ≤ f.k) (hk4 : f.k ≤ 4) (hx : f.n < 18446744073709551616) (hr : Row w B n (bys r)) (hl : Kept (∀ b ∈ r, b < 256)) (hnc : n ≤ c) (hc : c ≤ 9223372036854775807) (hn : n ≤ 1000000) :
    Calls Try.prog 18 #[.agg #[.slice B n c, .int .i64 e], .agg #[.int .i64 f.k, .int .u64 f.n, .string f.s]] w (RefRead B n e (D.rd f.k f.n r) r w) := by
  by_cases he : e = 0
  · subst he
    obtain ⟨k, x, s⟩ := f
    simp only at hk0 hk4 hx ⊢
    have hcs : k = 0 ∨ k = 1 ∨ k = 2 ∨ k = 3 ∨ k = 4 := by omega
    rcases hcs with rfl | rfl | rfl | rfl | rfl
    · exact ref_read_0 B n c w x s r hr hl hnc hc hn
    · exact ref_read_1 B n c w x s r hr hl hnc hc hn
    · exact ref_read_2 B n c w x s r hr hl hnc hc hn
    · exact ref_read_3 B n c w x s r hx hr hl hnc hc hn
    · exact ref_read_4 B n c w x s r hx hr hl hnc hc hn
  · exact ref_read_stuck B n c w f r e _ he hr hnc hc

def kl : List Nat := [7, 1, 2, 2, 97, 98]
theorem kl_lt : ∀ b ∈ kl, b < 256 := by decide
theorem k_text : D.sm (⟨#[97, 98]⟩ : ByteArray).size ++ D.ns ⟨#[97, 98]⟩ = [2, 97, 98] := by
  rw [show (⟨#[97, 98]⟩ : ByteArray).size = 2 by rfl, D.sm_last (by decide)]; rfl
section
variable (base p n c : Nat) (A : Option Addr) (w : World)
theorem k_byte (B : Option Addr) (h : Wr base w p A n c ⟨[], 0⟩ 20) (hr : Row w B 1 (bys [7])) : Calls Try.prog 24 #[.pointer (some ⟨p, 0, none⟩), .slice B 1 1] w (Wrote base p 20 A ⟨[7], 0⟩ w) :=
  w_byte base p 20 n c A ⟨[], 0⟩ w 7 1 B (by decide) h hr (by have := h.len; simp at this; omega) (by decide)
theorem k_short (h : Wr base w p A n c ⟨[7], 0⟩ 20) : Calls Try.prog 22 #[.pointer (some ⟨p, 0, none⟩), .int .i64 258] w (Wrote base p 20 A ⟨[7, 1, 2], 0⟩ w) :=
  w_short base p 20 n c A ⟨[7], 0⟩ w 258 (by decide) h (by have := h.len; simp at this; omega) (by decide)
theorem k_wtext (h : Wr base w p A n c ⟨[7, 1, 2], 0⟩ 20) : Calls Try.prog 27 #[.pointer (some ⟨p, 0, none⟩), .string ⟨#[97, 98]⟩] w (Wrote base p 20 A ⟨kl, 0⟩ w) := by
  have := w_text base p 20 n c A ⟨[7, 1, 2], 0⟩ w ⟨#[97, 98]⟩ (by decide) h (by have := h.len; simp at this; omega) (by decide)
  rw [k_text] at this
  exact this
theorem k_bytes (h : Wr base w p A n c ⟨kl, 0⟩ 20) : Calls Try.prog 12 #[.pointer (some ⟨p, 0, none⟩)] w fun e w' => ∃ B d, e = .returned (.tuple #[.slice B 6 d, .int .i64 0]) ∧ Row w' B 6 (bys kl) ∧ Below w.heap.size w w' := by
  refine (w_bytes base p 20 n c A ⟨kl, 0⟩ w h (by have := h.len; simp [kl] at this; omega) (by decide)).mono ?_
  rintro e w' ⟨B, m, d, rfl, hr, _, _, hb⟩
  have hm := hr.len
  obtain rfl : m = 6 := by rw [← hm]; rfl
  exact ⟨B, d, rfl, hr, hb⟩
end
section
variable (q n c : Nat) (B : Option Addr) (w : World)
theorem k_rbyte (h : Rd w q B n c kl 0 0) : Calls Try.prog 28 #[.pointer (some ⟨q, 0, none⟩)] w (Read q B n c kl (.int .u8 7) 1 0 w) := r_byte q n c 0 0 B kl w 7 h ⟨by rfl⟩
theorem k_rshort (h : Rd w q B n c kl 1 0) : Calls Try.prog 29 #[.pointer (some ⟨q, 0, none⟩)] w (Read q B n c kl (.int .i64 258) 3 0 w) := r_short q n c 1 0 B kl w 258 h ⟨by rfl⟩
theorem k_rtext (h : Rd w q B n c kl 3 0) : Calls Try.prog 31 #[.pointer (some ⟨q, 0, none⟩), .int .i64 1] w (Read q B n c kl (.string ⟨#[]⟩) 3 2 w) := r_text q n c 3 0 B kl w 1 (by decide) (by decide) h
theorem k_err (h : Rd w q B n c kl 3 2) : Calls Try.prog 20 #[.pointer (some ⟨q, 0, none⟩)] w fun en w' => en = .returned (.int .i64 2) ∧ w = w' := err_any q n c 3 2 B w h.blk
end
theorem k_new (w : World) : Calls Try.prog 10 #[.int .i64 20] w fun e w' => e = .returned (.pointer (some ⟨w.heap.size, 0, none⟩)) ∧ Wr w.heap.size w' w.heap.size none 0 0 ⟨[], 0⟩ 20 ∧ Below w.heap.size w w' := new_writer 20 w (by decide) (by decide)
theorem lit_kl (w : World) (H : Nat) (hH : w.heap.size = H) : Row (w.alloc (.cells #[.int .u8 7, .int .u8 1, .int .u8 2, .int .u8 2, .int .u8 97, .int .u8 98] 5)) (some ⟨H, 0, none⟩) 6 (bys kl) := by
  subst hH
  exact ⟨rfl, fun _ => ⟨_, rfl, by simp, World.news_of_block (heap_alloc_new w _)⟩⟩
theorem below_only1 {w w1 w2 : World} {q : Nat} (h : Below w.heap.size w w1) (k : Only (fun i => i = q) w1 w2) (hq : w.heap.size ≤ q) : Below w.heap.size w w2 := h.trans (k.below h.size fun i hi => hi ▸ hq)
set_option maxRecDepth 20000 in
set_option maxHeartbeats 1000000 in
theorem known_any (w : World) : Calls Try.prog 14 #[] w fun e w' => e = .returned (.bool true) ∧ Below w.heap.size w w' := by
  have cE1 := Lib.hid (fun A B c d W h1 h2 => same_any A B 6 c 6 d kl kl true W h1 h2 (by omega) (by omega) ⟨D.same_self _⟩)
  go_enter Try.func14, Try.ntmps14
  go_wp2_with (first
    | (go_at_call 10; (with_reducible refine (k_new _).mono ?_); rintro e w1 ⟨rfl, h1, hb1⟩)
    | (go_at_call 24; (with_reducible refine (k_byte _ _ _ _ _ _ _ (h1.on (below_alloc _ _)) ?_).mono ?_); (exact lit_byte _ _ _ _ rfl rfl); rintro e w2 ⟨rfl, A2, n2, c2, h2, o2, x2⟩; have hb2 := (h1.on (below_alloc _ _)).below o2 (hb1.alloc hb1.size _))
    | (go_at_call 22; (with_reducible refine (k_short _ _ _ _ _ _ h2).mono ?_); rintro e w3 ⟨rfl, A3, n3, c3, h3, o3, x3⟩; have hb3 := h2.below o3 hb2)
    | (go_at_call 27; (with_reducible refine (k_wtext _ _ _ _ _ _ h3).mono ?_); rintro e w4 ⟨rfl, A4, n4, c4, h4, o4, x4⟩; have hb4 := h3.below o4 hb3)
    | (go_at_call 12; (with_reducible refine (k_bytes _ _ _ _ _ _ h4).mono ?_); rintro e w5 ⟨B5, d5, rfl, r5, o5⟩; have hb5 := hb4.trans (o5.mono hb4.size))
    | (go_at_call 15; (with_reducible refine (cE1.out _ _ _ _ _ (r5.alloc _) ?_).mono ?_); (exact lit_kl _ _ (by simp)); rintro e w6 ⟨rfl, q6, rfl⟩)
    | (go_at_call 16; (with_reducible refine (new_reader 6 _ _ kl _ ((r5.alloc _).drewN _) ⟨kl_lt⟩ (by omega)).mono ?_); rintro e w7 ⟨q7, A7, c7, rfl, h7, hq7, hA7, o7⟩; have hb7 := (below_drewN (hb5.alloc hb5.size _) _).trans (o7.mono (by simp; have := hb5.size; omega)))
    | (go_at_call 28; (with_reducible refine (k_rbyte _ _ _ _ _ h7).mono ?_); rintro e w8 ⟨rfl, h8, o8⟩)
    | (go_at_call 29; (with_reducible refine (k_rshort _ _ _ _ _ h8).mono ?_); rintro e w9 ⟨rfl, h9, o9⟩)
    | (go_at_call 31; (with_reducible refine (k_rtext _ _ _ _ _ h9).mono ?_); rintro e wA ⟨rfl, hA, oA⟩)
    | (go_at_call 20; (with_reducible refine (k_err _ _ _ _ _ hA).mono ?_); rintro e wB ⟨rfl, rfl⟩))
  go_ret
  have hq : w.heap.size ≤ q7 := by have := hb5.size; simp at hq7; omega
  exact ⟨rfl, below_only1 (below_only1 (below_only1 hb7 o8 hq) o9 hq) oA hq⟩
end Go.Proofs.Ytnihkpcfnkimoaa
