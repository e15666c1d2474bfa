/-
  The law of fields that were written and read: its walk.
-/
import Derived.Test.YtnihkpcfnkimoaaReadsWalk
set_option linter.unusedVariables false
set_option linter.unusedSimpArgs false
namespace Go.Proofs.Ytnihkpcfnkimoaa
open Go.RowKit
attribute [local go_sem ↓] Go.wp_at_zero Go.wp_at_succ

theorem new10000 (w : World) : Calls Try.prog 10 #[.int .i64 10000] w fun e w' => e = .returned (.pointer (some ⟨w.heap.size, 0, none⟩)) ∧ Wr w.heap.size w' w.heap.size none 0 0 ⟨[], 0⟩ 10000 ∧ Below w.heap.size w w' := new_writer 10000 w (by decide) (by decide)
theorem encs_drop {l : List D.Fd} {k : Nat} {f : D.Fd} (h : l[k]? = some f) : D.encs (l.drop k) = D.enc f ++ D.encs (l.drop (k + 1)) := by
  obtain ⟨hk, rfl⟩ := List.getElem?_eq_some_iff.1 h
  rw [List.drop_eq_getElem_cons hk, D.encs_cons]
/-- What a writer with room for all of it tells. -/
theorem w_bytes_all (base p n c : Nat) (A : Option Addr) (L : List Nat) (w : World) (h : Wr base w p A n c ⟨L, 0⟩ 10000) (hn : n ≤ 500000) :
    Calls Try.prog 12 #[.pointer (some ⟨p, 0, none⟩)] w fun e w' => ∃ B d, e = .returned (.tuple #[.slice B L.length d, .int .i64 0]) ∧ Row w' B L.length (bys L) ∧ L.length ≤ d ∧ d ≤ maxLen ∧ Below w.heap.size w w' := by
  refine (w_bytes base p 10000 n c A ⟨L, 0⟩ w h hn (Nat.zero_le _)).mono ?_
  rintro e w' ⟨B, m, d, rfl, hr, h1, h2, hb⟩
  have hm := hr.len
  rw [bys_len] at hm
  obtain rfl : m = L.length := by rw [← hm]; rfl
  exact ⟨B, d, rfl, hr, h1, h2, hb⟩

set_option maxRecDepth 20000 in
set_option maxHeartbeats 2000000 in
theorem back_law (A : Option Addr) (n c : Nat) (l : List D.Fd) (w : World) (ha : FRow w A n l) (hl : Kept (∀ f ∈ l, Raw f)) (hn : n ≤ 9223372036854775807) :
    Calls Try.prog 5 #[.slice A n c] w fun e w' => e = .returned (.bool true) ∧ Below w.heap.size w w' := by
  have z0 := from_self w
  have cR := Lib.hid (right20 A n c l w ha hl hn)
  go_enter Try.func5, Try.ntmps5
  go_wp2_with (first
    | (go_at_call 9; (with_reducible refine cR.out.mono ?_); rintro e w1 ⟨A1, n1, c1, l1, rfl, r1, ok1, hn1, _, _, hb1⟩; have z1 := z0.on hb1)
    | (go_at_call 10; (with_reducible refine (new10000 _).mono ?_); rintro e w2 ⟨rfl, hW, hb2⟩))
  have OK := Lib.hid ok1
  have HL := Lib.hid r1.len
  clear cR ok1
  go_loopw [4] (fun i wr => ∃ (k n' c' : Nat) (A' : Option Addr), k ≤ n1 ∧ i = .int .i64 k ∧ Wr w1.heap.size wr w1.heap.size A' n' c' (D.writes 10000 ⟨[], 0⟩ (l1.take k)) 10000 ∧ From w1 wr) (fun i _ => n1 - (intOf i).toNat)
  case atStart => exact ⟨0, 0, 0, none, Nat.zero_le _, rfl, hW, ⟨hb2⟩⟩
  case round =>
    obtain ⟨k, n', c', A', hk, rfl, hw, hz⟩ := hrel
    have hlen := hw.len
    have hpl := put_len (m := 10000) OK.out (by rw [HL.out]; exact hn1) k
    have hn5 : n' ≤ 5000 := by omega
    clear hlen hpl
    by_cases hlt : k < n1
    · obtain ⟨f, hf, hfm⟩ := fat_lt (l := l1) (i := k) (by rw [HL.out]; exact hlt)
      have hfo := OK.out f hfm
      obtain ⟨ad, rfl, q0, q1, q2⟩ := (hz.frow r1).at_ hf
      have cP := Lib.hid (law_put w1.heap.size w1.heap.size 10000 n' c' A' _ wr f hfo hw (by omega) (by decide))
      rw [← D.writes_next hf] at cP
      clear hf hfm
      go_wp2_with (go_at_call 11; (with_reducible refine cP.out.mono ?_); rintro e w3 ⟨rfl, A3, n3, c3, h3, o3, x3⟩)
      go_roundw
      case rel => exact ⟨k + 1, n3, c3, A3, by omega, by go_num, h3, ⟨hw.below o3 hz.below⟩⟩
      case measure => simp [intOf]; omega
    · obtain rfl : n1 = k := by omega
      have hall := D.encs_len OK.out
      rw [HL.out] at hall
      rw [List.take_of_length_le (by rw [HL.out]; exact Nat.le_refl _), D.writes_all 10000 l1 [] (by simp; omega), List.nil_append] at hw
      obtain ⟨L, hL⟩ : ∃ L, D.encs l1 = L := ⟨_, rfl⟩
      have hLb : ∀ b ∈ L, b < 256 := hL ▸ D.encs_lt OK.out
      rw [hL] at hw hall
      have HLL := Lib.hid hL
      obtain ⟨m, hm⟩ : ∃ m, L.length = m := ⟨_, rfl⟩
      have cB := w_bytes_all w1.heap.size w1.heap.size n' c' A' L wr hw (by omega)
      rw [hm] at cB hall
      have cB := Lib.hid cB
      have HM := Lib.hid hm
      clear hL hm hw
      go_wp2_with (first
        | (go_at_call 12; (with_reducible refine cB.out.mono ?_); rintro e w3 ⟨B1, d1, rfl, rB1, _, _, hb3⟩; have z3 := hz.on hb3)
        | (go_at_call 16; (with_reducible refine (new_reader m d1 B1 L w3 rB1 ⟨hLb⟩ (by omega)).mono ?_); rintro e w4 ⟨q, A2, c2, rfl, hrd, hHq3, hHA, hb4⟩; have z4 := z3.on hb4))
      have hHq : w1.heap.size ≤ q := Nat.le_trans z3.below.size hHq3
      have hql := hrd.blk.lt
      have h14 := z4.below.size
      have h34 := hb4.size
      go_loopw [8] (fun i wr => ∃ (k pl_ : Nat), k ≤ n1 ∧ i = .int .i64 k ∧ Rd wr q A2 m c2 L pl_ 0 ∧ Kept (L.drop pl_ = D.encs (l1.drop k)) ∧ From w3 wr ∧ w4.heap.size ≤ wr.heap.size) (fun i _ => n1 - (intOf i).toNat)
      case atStart => exact ⟨0, 0, Nat.zero_le _, rfl, hrd, ⟨by rw [List.drop_zero, List.drop_zero]; exact HLL.out.symm⟩, ⟨hb4⟩, Nat.le_refl _⟩
      case round =>
        clear hrd
        obtain ⟨k, pl_, hk, rfl, hrd, HP, hz, h4z⟩ := hrel
        by_cases hlt : k < n1
        · obtain ⟨f, hf, hfm⟩ := fat_lt (l := l1) (i := k) (by rw [HL.out]; exact hlt)
          have hfo := OK.out f hfm
          obtain ⟨ad, rfl, q0, q1, q2⟩ := ((z3.on hz.below).frow r1).at_ hf
          have henc := encs_drop hf
          have hcs := hfo.cases
          have hN := hfo.n
          have hS := hfo.s
          obtain ⟨K, x, s⟩ := f
          simp only at hcs hN hS q0 q1 q2
          have hqf : wr.heap.size ≠ q := fun h => absurd hrd.blk.lt (by omega)
          have hqf' : ¬ q = wr.heap.size := fun h => hqf h.symm
          have hzs := hz.below.size
          clear hf hfm
          rcases hcs with rfl | rfl | rfl | rfl | rfl
          · obtain ⟨y, hy'⟩ : ∃ y, x % 256 = y := ⟨_, rfl⟩
            have ey : (x : Int) % 256 = (y : Int) := by omega
            have hbk := D.rd_back hfo (D.encs (l1.drop (k + 1)))
            rw [← henc, ← HP.out] at hbk
            have cG := law_get q m c2 pl_ 0 A2 L (wr.alloc (.cells #[.int .i64 0, .int .u64 (x : Int), .string s] 29)) 0 (x) (x) hN (by omega) (by omega) (fun _ => rfl) (fun h => absurd h (by decide)) (hrd.on (below_alloc _ _))
            have hbk' : D.rd 0 (x) (L.drop pl_) = ⟨y, [], (D.enc ⟨0, x, s⟩).length, 0⟩ := by rw [← hy']; exact hbk
            rw [hbk'] at cG
            have cG : Hid (Calls Try.prog 17 #[.pointer (some ⟨q, 0, none⟩), .int .i64 0, .int .u64 ((x : Nat) : Int)] (wr.alloc (.cells #[.int .i64 0, .int .u64 (x : Int), .string s] 29)) fun en w' => en = .returned (.tuple #[.int .u64 ((y : Nat) : Int), .string (D.sb ([]))]) ∧ Rd w' q A2 m c2 L (pl_ + (D.enc ⟨0, x, s⟩).length) 0 ∧ Only (fun i => i = q) (wr.alloc (.cells #[.int .i64 0, .int .u64 (x : Int), .string s] 29)) w') := cG
            have HN : Kept (L.drop (pl_ + (D.enc ⟨0, x, s⟩).length) = D.encs (l1.drop (k + 1))) := ⟨by rw [← List.drop_drop, HP.out, henc, List.drop_left]⟩
            obtain ⟨le, hle⟩ : ∃ le, (D.enc ⟨0, x, s⟩).length = le := ⟨_, rfl⟩
            rw [hle] at cG HN
            clear hy'
            have esb : D.sb [] = ⟨#[]⟩ := rfl
            clear hbk hbk' henc hle hfo
            have hbn := below_alloc wr (.cells #[.int .i64 0, .int .u64 (x : Int), .string s] 29)
            have hfA := Blk.new wr 29 #[.int .i64 0, .int .u64 (x : Int), .string s]
            go_wp2_with (go_at_call 17; (with_reducible refine cG.out.mono ?_); rintro en w5 ⟨rfl, r5, o5⟩; have hf3 := hfA.only o5 hqf; have u3 := (hf3.c 0).trans rfl; have u4 := (hf3.c 1).trans rfl; have u5 := (hf3.c 2).trans rfl; have u6 := hf3.f 1; have z5 := hz.off (only_off hbn o5) hHq3)
            have hsz : w4.heap.size ≤ ((w5.setCell ⟨wr.heap.size, 1, none⟩ (.int .u64 (y : Int)))).heap.size := by have := o5.size; simp at this ⊢; omega
            go_roundw
            case rel => exact ⟨k + 1, pl_ + le, by omega, by go_num, (r5.only ((Only.self (fun i => i = wr.heap.size) w5).set (p := ⟨wr.heap.size, 1, none⟩) (.inl rfl) (.int .u64 (y : Int))) hqf' (fun ad h => by have := hHA _ ⟨ad, h, rfl⟩; omega)), HN, (z5.off ((Only.self (fun i => i = wr.heap.size) w5).set (p := ⟨wr.heap.size, 1, none⟩) (.inl rfl) (.int .u64 (y : Int))) (by omega)), hsz⟩
            case measure => simp [intOf]; omega
          · obtain ⟨y, hy'⟩ : ∃ y, x % 65536 = y := ⟨_, rfl⟩
            have ey : (x : Int) % 65536 = (y : Int) := by omega
            have hbk := D.rd_back hfo (D.encs (l1.drop (k + 1)))
            rw [← henc, ← HP.out] at hbk
            have cG := law_get q m c2 pl_ 0 A2 L (wr.alloc (.cells #[.int .i64 1, .int .u64 (x : Int), .string s] 29)) 1 (x) (x) hN (by omega) (by omega) (fun _ => rfl) (fun h => absurd h (by decide)) (hrd.on (below_alloc _ _))
            have hbk' : D.rd 1 (x) (L.drop pl_) = ⟨y, [], (D.enc ⟨1, x, s⟩).length, 0⟩ := by rw [← hy']; exact hbk
            rw [hbk'] at cG
            have cG : Hid (Calls Try.prog 17 #[.pointer (some ⟨q, 0, none⟩), .int .i64 1, .int .u64 ((x : Nat) : Int)] (wr.alloc (.cells #[.int .i64 1, .int .u64 (x : Int), .string s] 29)) fun en w' => en = .returned (.tuple #[.int .u64 ((y : Nat) : Int), .string (D.sb ([]))]) ∧ Rd w' q A2 m c2 L (pl_ + (D.enc ⟨1, x, s⟩).length) 0 ∧ Only (fun i => i = q) (wr.alloc (.cells #[.int .i64 1, .int .u64 (x : Int), .string s] 29)) w') := cG
            have HN : Kept (L.drop (pl_ + (D.enc ⟨1, x, s⟩).length) = D.encs (l1.drop (k + 1))) := ⟨by rw [← List.drop_drop, HP.out, henc, List.drop_left]⟩
            obtain ⟨le, hle⟩ : ∃ le, (D.enc ⟨1, x, s⟩).length = le := ⟨_, rfl⟩
            rw [hle] at cG HN
            clear hy'
            have esb : D.sb [] = ⟨#[]⟩ := rfl
            clear hbk hbk' henc hle hfo
            have hbn := below_alloc wr (.cells #[.int .i64 1, .int .u64 (x : Int), .string s] 29)
            have hfA := Blk.new wr 29 #[.int .i64 1, .int .u64 (x : Int), .string s]
            go_wp2_with (go_at_call 17; (with_reducible refine cG.out.mono ?_); rintro en w5 ⟨rfl, r5, o5⟩; have hf3 := hfA.only o5 hqf; have u3 := (hf3.c 0).trans rfl; have u4 := (hf3.c 1).trans rfl; have u5 := (hf3.c 2).trans rfl; have u6 := hf3.f 1; have z5 := hz.off (only_off hbn o5) hHq3)
            have hsz : w4.heap.size ≤ ((w5.setCell ⟨wr.heap.size, 1, none⟩ (.int .u64 (y : Int)))).heap.size := by have := o5.size; simp at this ⊢; omega
            go_roundw
            case rel => exact ⟨k + 1, pl_ + le, by omega, by go_num, (r5.only ((Only.self (fun i => i = wr.heap.size) w5).set (p := ⟨wr.heap.size, 1, none⟩) (.inl rfl) (.int .u64 (y : Int))) hqf' (fun ad h => by have := hHA _ ⟨ad, h, rfl⟩; omega)), HN, (z5.off ((Only.self (fun i => i = wr.heap.size) w5).set (p := ⟨wr.heap.size, 1, none⟩) (.inl rfl) (.int .u64 (y : Int))) (by omega)), hsz⟩
            case measure => simp [intOf]; omega
          · skip
            have hbk := D.rd_back hfo (D.encs (l1.drop (k + 1)))
            rw [← henc, ← HP.out] at hbk
            have cG := law_get q m c2 pl_ 0 A2 L (wr.alloc (.cells #[.int .i64 2, .int .u64 (x : Int), .string s] 29)) 2 (x) (x) hN (by omega) (by omega) (fun _ => rfl) (fun h => absurd h (by decide)) (hrd.on (below_alloc _ _))
            have hbk' : D.rd 2 (x) (L.drop pl_) = ⟨x, [], (D.enc ⟨2, x, s⟩).length, 0⟩ := hbk
            rw [hbk'] at cG
            have cG : Hid (Calls Try.prog 17 #[.pointer (some ⟨q, 0, none⟩), .int .i64 2, .int .u64 ((x : Nat) : Int)] (wr.alloc (.cells #[.int .i64 2, .int .u64 (x : Int), .string s] 29)) fun en w' => en = .returned (.tuple #[.int .u64 ((x : Nat) : Int), .string (D.sb ([]))]) ∧ Rd w' q A2 m c2 L (pl_ + (D.enc ⟨2, x, s⟩).length) 0 ∧ Only (fun i => i = q) (wr.alloc (.cells #[.int .i64 2, .int .u64 (x : Int), .string s] 29)) w') := cG
            have HN : Kept (L.drop (pl_ + (D.enc ⟨2, x, s⟩).length) = D.encs (l1.drop (k + 1))) := ⟨by rw [← List.drop_drop, HP.out, henc, List.drop_left]⟩
            obtain ⟨le, hle⟩ : ∃ le, (D.enc ⟨2, x, s⟩).length = le := ⟨_, rfl⟩
            rw [hle] at cG HN
            have esb : D.sb [] = ⟨#[]⟩ := rfl
            clear hbk hbk' henc hle hfo
            have hbn := below_alloc wr (.cells #[.int .i64 2, .int .u64 (x : Int), .string s] 29)
            have hfA := Blk.new wr 29 #[.int .i64 2, .int .u64 (x : Int), .string s]
            go_wp2_with (go_at_call 17; (with_reducible refine cG.out.mono ?_); rintro en w5 ⟨rfl, r5, o5⟩; have hf3 := hfA.only o5 hqf; have u3 := (hf3.c 0).trans rfl; have u4 := (hf3.c 1).trans rfl; have u5 := (hf3.c 2).trans rfl; have u6 := hf3.f 1; have z5 := hz.off (only_off hbn o5) hHq3)
            have hsz : w4.heap.size ≤ (w5).heap.size := by have := o5.size; simp at this ⊢; omega
            go_roundw
            case rel => exact ⟨k + 1, pl_ + le, by omega, by go_num, r5, HN, z5, hsz⟩
            case measure => simp [intOf]; omega
          · skip
            have hbk := D.rd_back hfo (D.encs (l1.drop (k + 1)))
            rw [← henc, ← HP.out] at hbk
            have cG := law_get q m c2 pl_ 0 A2 L (wr.alloc (.cells #[.int .i64 3, .int .u64 (x : Int), .string s] 29)) 3 (x) (x) hN (by omega) (by omega) (fun _ => rfl) (fun h => absurd h (by decide)) (hrd.on (below_alloc _ _))
            have hbk' : D.rd 3 (x) (L.drop pl_) = ⟨x, [], (D.enc ⟨3, x, s⟩).length, 0⟩ := hbk
            rw [hbk'] at cG
            have cG : Hid (Calls Try.prog 17 #[.pointer (some ⟨q, 0, none⟩), .int .i64 3, .int .u64 ((x : Nat) : Int)] (wr.alloc (.cells #[.int .i64 3, .int .u64 (x : Int), .string s] 29)) fun en w' => en = .returned (.tuple #[.int .u64 ((x : Nat) : Int), .string (D.sb ([]))]) ∧ Rd w' q A2 m c2 L (pl_ + (D.enc ⟨3, x, s⟩).length) 0 ∧ Only (fun i => i = q) (wr.alloc (.cells #[.int .i64 3, .int .u64 (x : Int), .string s] 29)) w') := cG
            have HN : Kept (L.drop (pl_ + (D.enc ⟨3, x, s⟩).length) = D.encs (l1.drop (k + 1))) := ⟨by rw [← List.drop_drop, HP.out, henc, List.drop_left]⟩
            obtain ⟨le, hle⟩ : ∃ le, (D.enc ⟨3, x, s⟩).length = le := ⟨_, rfl⟩
            rw [hle] at cG HN
            have esb : D.sb [] = ⟨#[]⟩ := rfl
            clear hbk hbk' henc hle hfo
            have hbn := below_alloc wr (.cells #[.int .i64 3, .int .u64 (x : Int), .string s] 29)
            have hfA := Blk.new wr 29 #[.int .i64 3, .int .u64 (x : Int), .string s]
            go_wp2_with (go_at_call 17; (with_reducible refine cG.out.mono ?_); rintro en w5 ⟨rfl, r5, o5⟩; have hf3 := hfA.only o5 hqf; have u3 := (hf3.c 0).trans rfl; have u4 := (hf3.c 1).trans rfl; have u5 := (hf3.c 2).trans rfl; have u6 := hf3.f 1; have z5 := hz.off (only_off hbn o5) hHq3)
            have hsz : w4.heap.size ≤ (w5).heap.size := by have := o5.size; simp at this ⊢; omega
            go_roundw
            case rel => exact ⟨k + 1, pl_ + le, by omega, by go_num, r5, HN, z5, hsz⟩
            case measure => simp [intOf]; omega
          · have hw : IntKind.u64.wrap (s.size : Int) = s.size := by rw [IntKind.wrap_u64]; omega
            have hbk := D.rd_back hfo (D.encs (l1.drop (k + 1)))
            rw [← henc, ← HP.out] at hbk
            have cG := law_get q m c2 pl_ 0 A2 L (wr.alloc (.cells #[.int .i64 4, .int .u64 (x : Int), .string s] 29)) 4 (s.size) (s.size) (by omega) (by omega) (by omega) (fun h => absurd rfl h) (fun _ => by rw [Nat.mod_eq_of_lt]; omega) (hrd.on (below_alloc _ _))
            have hbk' : D.rd 4 (s.size) (L.drop pl_) = ⟨0, D.ns s, (D.enc ⟨4, x, s⟩).length, 0⟩ := hbk
            rw [hbk'] at cG
            have cG : Hid (Calls Try.prog 17 #[.pointer (some ⟨q, 0, none⟩), .int .i64 4, .int .u64 ((s.size : Nat) : Int)] (wr.alloc (.cells #[.int .i64 4, .int .u64 (x : Int), .string s] 29)) fun en w' => en = .returned (.tuple #[.int .u64 ((0 : Nat) : Int), .string (D.sb (D.ns s))]) ∧ Rd w' q A2 m c2 L (pl_ + (D.enc ⟨4, x, s⟩).length) 0 ∧ Only (fun i => i = q) (wr.alloc (.cells #[.int .i64 4, .int .u64 (x : Int), .string s] 29)) w') := cG
            have HN : Kept (L.drop (pl_ + (D.enc ⟨4, x, s⟩).length) = D.encs (l1.drop (k + 1))) := ⟨by rw [← List.drop_drop, HP.out, henc, List.drop_left]⟩
            obtain ⟨le, hle⟩ : ∃ le, (D.enc ⟨4, x, s⟩).length = le := ⟨_, rfl⟩
            rw [hle] at cG HN
            rw [D.sb_ns] at cG
            clear hbk hbk' henc hle hfo
            have hbn := below_alloc wr (.cells #[.int .i64 4, .int .u64 (x : Int), .string s] 29)
            have hfA := Blk.new wr 29 #[.int .i64 4, .int .u64 (x : Int), .string s]
            go_wp2_with (go_at_call 17; (with_reducible refine cG.out.mono ?_); rintro en w5 ⟨rfl, r5, o5⟩; have hf3 := hfA.only o5 hqf; have u3 := (hf3.c 0).trans rfl; have u4 := (hf3.c 1).trans rfl; have u5 := (hf3.c 2).trans rfl; have u6 := hf3.f 1; have z5 := hz.off (only_off hbn o5) hHq3)
            have hsz : w4.heap.size ≤ ((w5.setCell ⟨wr.heap.size, 1, none⟩ (.int .u64 0))).heap.size := by have := o5.size; simp at this ⊢; omega
            go_roundw
            case rel => exact ⟨k + 1, pl_ + le, by omega, by go_num, (r5.only ((Only.self (fun i => i = wr.heap.size) w5).set (p := ⟨wr.heap.size, 1, none⟩) (.inl rfl) (.int .u64 0)) hqf' (fun ad h => by have := hHA _ ⟨ad, h, rfl⟩; omega)), HN, (z5.off ((Only.self (fun i => i = wr.heap.size) w5).set (p := ⟨wr.heap.size, 1, none⟩) (.inl rfl) (.int .u64 0)) (by omega)), hsz⟩
            case measure => simp [intOf]; omega
        · have hpe : m - pl_ = 0 := by
            have h1 := congrArg List.length HP.out
            rw [show k = n1 by omega, List.drop_of_length_le (l := l1) (by rw [HL.out]; exact Nat.le_refl _), List.length_drop, HM.out] at h1
            exact h1
          have hple := hrd.le
          have cD : Hid (∀ W, Blk W q 67 #[.slice A2 m c2, .int .i64 0, .int .i64 pl_] → Calls Try.prog 21 #[.pointer (some ⟨q, 0, none⟩)] W fun en w' => en = .returned (.int .i64 0) ∧ ∃ u, w' = W.drewN u) := fun W h => done_any q m c2 pl_ 0 A2 W 0 h hple (by omega) ⟨by rw [dn, if_pos rfl, if_neg (by omega)]⟩
          have cL : Hid (∀ W, Blk W q 67 #[.slice A2 m c2, .int .i64 0, .int .i64 pl_] → Calls Try.prog 19 #[.pointer (some ⟨q, 0, none⟩)] W fun en w' => en = .returned (.int .i64 0) ∧ ∃ u, w' = W.drewN u) := fun W h => by
            have := left_any q m c2 pl_ 0 A2 W h hple (by omega)
            rw [hpe] at this
            exact this
          clear hpe
          go_wp2_with (first
            | (go_at_call 14; (with_reducible refine (known_any _).mono ?_); rintro en w5 ⟨rfl, hb5⟩; have r5 := hrd.on hb5)
            | (go_at_call 21; (with_reducible refine (cD.out _ r5.blk).mono ?_); rintro en w6 ⟨rfl, u, rfl⟩)
            | (go_at_call 19; (with_reducible refine (cL.out _ (blk_drewN r5.blk _)).mono ?_); rintro en w7 ⟨rfl, u7, rfl⟩))
          go_ret
          exact ⟨rfl, (z1.on (z3.on ((hz.on hb5).drewN _).below).below).below⟩
theorem back_all (A : Option Addr) (n c : Nat) (l : List D.Fd) (w : World) (ha : FRow w A n l) (hl : ∀ f ∈ l, Raw f) (hn : n ≤ maxLen) :
    Calls Try.prog 5 #[.slice A n c] w fun e w' => e = .returned (.bool true) ∧ Below w.heap.size w w' := back_law A n c l w ha ⟨hl⟩ hn
end Go.Proofs.Ytnihkpcfnkimoaa
