/-
  The law's put: a field is written; and the writer's calls at a nil pointer.
-/
import Derived.Test.YtnihkpcfnkimoaaMeth
set_option linter.unusedVariables false
set_option linter.unusedSimpArgs false
namespace Go.Proofs.Ytnihkpcfnkimoaa
open Go.RowKit
attribute [local go_sem ↓] Go.wp_at_zero Go.wp_at_succ

def fv (f : D.Fd) : Value := .agg #[.int .i64 f.k, .int .u64 f.n, .string f.s]
theorem lit_byte (w : World) (x H : Nat) (z : Int) (hz : z = x) (hH : w.heap.size = H) : Row (w.alloc (.cells #[.int .u8 z] 5)) (some ⟨H, 0, none⟩) 1 (bys [x]) := by
  subst hz hH
  exact ⟨rfl, fun _ => ⟨_, rfl, by simp, World.news_of_block (heap_alloc_new w _)⟩⟩
section
variable (base p room n c : Nat) (A : Option Addr) (s : D.St) (w : World)
set_option maxHeartbeats 400000 in
theorem law_put (f : D.Fd) (hf : f.ok) (h : Wr base w p A n c s room) (hn : n ≤ 500000) (hroom : room ≤ 9223372036854775807) :
    Calls Try.prog 11 #[.pointer (some ⟨p, 0, none⟩), .agg #[.int .i64 f.k, .int .u64 f.n, .string f.s]] w (Wrote base p room A (D.wput room s (D.enc f) 0) w) := by
  have hcs := hf.cases
  have hx := hf.n
  have hs := hf.s
  obtain ⟨k, x, t⟩ := f
  simp only at hcs hx hs ⊢
  have h1 := h.on (below_alloc w (.cells #[.int .i64 k, .int .u64 x, .string t] 29))
  rcases hcs with rfl | rfl | rfl | rfl | rfl
  · rw [D.enc0 rfl]
    obtain ⟨y, hy⟩ : ∃ y, x % 256 = y := ⟨_, rfl⟩
    have hy2 : y < 256 := by omega
    have e8 : (x : Int) % 256 = (y : Int) := by omega
    have hb2 := (below_alloc w (.cells #[.int .i64 0, .int .u64 x, .string t] 29))
    simp only [hy]
    have cB := Lib.hid (fun B W h hr => w_byte base p room n c A s W y 1 B hy2 h hr hn hroom)
    clear hy
    go_enter Try.func11, Try.ntmps11
    go_wp2_with (go_at_call 24; (with_reducible refine (cB.out _ _ (h1.on (below_alloc _ _)) ?_).mono ?_); (exact lit_byte _ _ _ _ rfl (by simp)); rintro e w1 HW; have HE := HW.1; subst HE)
    go_ret
    exact (HW.back (below_alloc _ _)).back hb2
  · rw [D.enc1 rfl]
    obtain ⟨y, hy⟩ : ∃ y, x % 65536 = y := ⟨_, rfl⟩
    have hy2 : y ≤ 65535 := by omega
    have e8 : (x : Int) % 65536 = (y : Int) := by omega
    have hb2 := (below_alloc w (.cells #[.int .i64 1, .int .u64 x, .string t] 29))
    simp only [hy]
    have cB := Lib.hid (w_short base p room n c A s _ y hy2 h1 hn hroom)
    clear hy
    go_enter Try.func11, Try.ntmps11
    go_wp2_with (go_at_call 22; (with_reducible refine cB.out.mono ?_); rintro e w1 HW; have HE := HW.1; subst HE)
    go_ret
    exact HW.back hb2
  · rw [D.enc2 rfl]
    have hb2 := (below_alloc w (.cells #[.int .i64 2, .int .u64 x, .string t] 29))
    have cB := Lib.hid (w_word base p room n c A s _ x hx h1 hn hroom)
    go_enter Try.func11, Try.ntmps11
    go_wp2_with (go_at_call 25; (with_reducible refine cB.out.mono ?_); rintro e w1 HW; have HE := HW.1; subst HE)
    go_ret
    exact HW.back hb2
  · rw [D.enc3 rfl]
    have hb2 := (below_alloc w (.cells #[.int .i64 3, .int .u64 x, .string t] 29))
    have cB := Lib.hid (w_number base p room n c A s _ x hx h1 hn hroom)
    go_enter Try.func11, Try.ntmps11
    go_wp2_with (go_at_call 26; (with_reducible refine cB.out.mono ?_); rintro e w1 HW; have HE := HW.1; subst HE)
    go_ret
    exact HW.back hb2
  · rw [D.enc4 rfl]
    have hb2 := (below_alloc w (.cells #[.int .i64 4, .int .u64 x, .string t] 29))
    have cB := Lib.hid (w_text base p room n c A s _ t (by omega) h1 hn hroom)
    go_enter Try.func11, Try.ntmps11
    go_wp2_with (go_at_call 27; (with_reducible refine cB.out.mono ?_); rintro e w1 HW; have HE := HW.1; subst HE)
    go_ret
    exact HW.back hb2
end

section
variable (w : World)
theorem put_nil (f : FuncId) (caps : Array Value) : Calls Try.prog 37 #[.pointer none, .func (.func f) #[] caps] w fun e w' => e = .returned (.pointer none) ∧ w = w' := by
  go_enter Try.func37, Try.ntmps37
  go_wp2
  go_ret
  exact ⟨rfl, rfl⟩
theorem short_nil (x : Int) : Calls Try.prog 22 #[.pointer none, .int .i64 x] w fun e w' => e = .returned (.pointer none) ∧ Below w.heap.size w w' := by
  go_enter Try.func22, Try.ntmps22
  go_wp2_with (go_at_call 37; (with_reducible refine (put_nil _ _ _).mono ?_); rintro e w1 ⟨rfl, rfl⟩)
  go_ret
  exact ⟨rfl, below_alloc _ _⟩
theorem word_nil (x : Int) : Calls Try.prog 25 #[.pointer none, .int .u64 x] w fun e w' => e = .returned (.pointer none) ∧ Below w.heap.size w w' := by
  go_enter Try.func25, Try.ntmps25
  go_wp2_with (go_at_call 37; (with_reducible refine (put_nil _ _ _).mono ?_); rintro e w1 ⟨rfl, rfl⟩)
  go_ret
  exact ⟨rfl, below_alloc _ _⟩
theorem number_nil (x : Int) : Calls Try.prog 26 #[.pointer none, .int .u64 x] w fun e w' => e = .returned (.pointer none) ∧ Below w.heap.size w w' := by
  go_enter Try.func26, Try.ntmps26
  go_wp2_with (go_at_call 37; (with_reducible refine (put_nil _ _ _).mono ?_); rintro e w1 ⟨rfl, rfl⟩)
  go_ret
  exact ⟨rfl, below_alloc _ _⟩
theorem text_nil (x : ByteArray) : Calls Try.prog 27 #[.pointer none, .string x] w fun e w' => e = .returned (.pointer none) ∧ Below w.heap.size w w' := by
  go_enter Try.func27, Try.ntmps27
  go_wp2_with (go_at_call 37; (with_reducible refine (put_nil _ _ _).mono ?_); rintro e w1 ⟨rfl, rfl⟩)
  go_ret
  exact ⟨rfl, below_alloc _ _⟩
theorem byte_nil (x d : Nat) (B : Option Addr) (hr : Row w B 1 (bys [x])) : Calls Try.prog 24 #[.pointer none, .slice B 1 d] w fun e w' => e = .returned (.pointer none) ∧ Below w.heap.size w w' := by
  obtain ⟨ad, rfl, cx⟩ := hr.cell (k := 0) (bys_at (b := x) rfl)
  rw [add_zero_] at cx
  go_enter Try.func24, Try.ntmps24
  go_wp2_with fail
  go_loopw [9] (fun i wr => (i = .int .i64 0 ∧ wr = w) ∨ (i = .int .i64 1 ∧ Below w.heap.size w wr)) (fun i _ => 1 - (intOf i).toNat)
  case atStart => exact .inl ⟨rfl, rfl⟩
  case round =>
    rcases hrel with ⟨rfl, rfl⟩ | ⟨rfl, hW⟩
    · go_wp2_with (go_at_call 37; (with_reducible refine (put_nil _ _ _).mono ?_); rintro e w1 ⟨rfl, rfl⟩)
      go_roundw
      case rel => exact .inr ⟨rfl, below_alloc _ _⟩
      case measure => simp [intOf]
    · go_wp2
      go_ret
      exact ⟨rfl, hW⟩
theorem bytes_nil : Calls Try.prog 12 #[.pointer none] w fun e w' => e = .returned (.tuple #[.slice none 0 0, .int .i64 9]) ∧ w = w' := by
  go_enter Try.func12, Try.ntmps12
  go_wp2
  go_ret2
  exact ⟨rfl, rfl⟩
end
end Go.Proofs.Ytnihkpcfnkimoaa
