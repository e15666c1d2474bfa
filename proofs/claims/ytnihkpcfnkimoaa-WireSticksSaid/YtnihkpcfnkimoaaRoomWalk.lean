/-
  The law of what fits just into the room: its walk.
-/
import Derived.Test.YtnihkpcfnkimoaaBackWalk
set_option linter.unusedVariables false
set_option linter.unusedSimpArgs false
namespace Go.Proofs.Ytnihkpcfnkimoaa
open Go.RowKit
attribute [local go_sem ↓] Go.wp_at_zero Go.wp_at_succ

/-- Two writers that share no block. -/
structure Dis (p : Nat) (A : Option Addr) (q : Nat) (B : Option Addr) : Prop where
  out : ∀ i, Wf p A i → ¬ Wf q B i
theorem Dis.symm {p q : Nat} {A B : Option Addr} (h : Dis p A q B) : Dis q B p A := ⟨fun i hi hj => h.out i hj hi⟩
theorem Dis.next {p q H : Nat} {A A' B : Option Addr} (h : Dis p A q B) (x : Nx H A A') (hq : ∀ i, Wf q B i → i < H) : Dis p A' q B :=
  ⟨fun i hi hj => (Wf.next x i hi).elim (fun h1 => h.out i h1 hj) (fun h2 => by have := hq i hj; omega)⟩
theorem w_bytes_is (base p n c room : Nat) (A : Option Addr) (L : List Nat) (w : World) (h : Wr base w p A n c ⟨L, 0⟩ room) (hn : n ≤ 500000) :
    Calls Try.prog 12 #[.pointer (some ⟨p, 0, none⟩)] w fun e w' => ∃ B d, e = .returned (.tuple #[.slice B L.length d, .int .i64 0]) ∧ Row w' B L.length (bys L) ∧ Below w.heap.size w w' := by
  refine (w_bytes base p room n c A ⟨L, 0⟩ w h hn (Nat.zero_le _)).mono ?_
  rintro e w' ⟨B, m, d, rfl, hr, h1, h2, hb⟩
  have hm := hr.len
  rw [bys_len] at hm
  obtain rfl : m = L.length := by rw [← hm]; rfl
  exact ⟨B, d, rfl, hr, hb⟩
theorem w_bytes_none (base p n c room : Nat) (A : Option Addr) (s : D.St) (z : Nat) (w : World) (h : Wr base w p A n c s room) (hn : n ≤ 500000) (hz : s.err = z) (hz9 : z ≤ 9) (ho : outs s = []) :
    Calls Try.prog 12 #[.pointer (some ⟨p, 0, none⟩)] w fun e w' => ∃ B d, e = .returned (.tuple #[.slice B 0 d, .int .i64 z]) ∧ Below w.heap.size w w' := by
  refine (w_bytes base p room n c A s w h hn (by omega)).mono ?_
  rintro e w' ⟨B, m, d, rfl, hr, h1, h2, hb⟩
  have hm := hr.len
  rw [bys_len, ho] at hm
  obtain rfl : m = 0 := by rw [← hm]; rfl
  rw [hz]
  exact ⟨B, d, rfl, hb⟩

set_option maxRecDepth 20000 in
set_option maxHeartbeats 2000000 in
theorem room_law (A : Option Addr) (n c : Nat) (l : List D.Fd) (w : World) (ha : FRow w A n l) (hl : Kept (∀ f ∈ l, Raw f)) (hn : n ≤ 9223372036854775807) :
    Calls Try.prog 7 #[.slice A n c] w fun e w' => e = .returned (.bool true) ∧ Below w.heap.size w w' := by
  have z0 := from_self w
  have cR := Lib.hid (right20 A n c l w ha hl hn)
  go_enter Try.func7, Try.ntmps7
  go_wp2_with (first
    | (go_at_call 9; (with_reducible refine cR.out.mono ?_); rintro e w1 ⟨A1, n1, c1, l1, rfl, r1, ok1, hn1, _, _, hb1⟩; have z1 := z0.on hb1)
    | (go_at_call 10; (with_reducible refine (new10000 _).mono ?_); rintro e w2 ⟨rfl, hW, hb2⟩))
  have OK := Lib.hid ok1
  have HL := Lib.hid r1.len
  clear cR ok1
  go_loopw [4] (fun i wr => ∃ (k n' c' : Nat) (A' : Option Addr), k ≤ n1 ∧ i = .int .i64 k ∧ Wr w1.heap.size wr w1.heap.size A' n' c' (D.writes 10000 ⟨[], 0⟩ (l1.take k)) 10000 ∧ From w1 wr) (fun i _ => n1 - (intOf i).toNat)
  case atStart => exact ⟨0, 0, 0, none, Nat.zero_le _, rfl, hW, ⟨hb2⟩⟩
  case round =>
    obtain ⟨k, n', c', A', hk, rfl, hw, hz⟩ := hrel
    have hlen := hw.len
    have hpl := put_len (m := 10000) OK.out (by rw [HL.out]; exact hn1) k
    have hn5 : n' ≤ 5000 := by omega
    clear hlen hpl
    by_cases hlt : k < n1
    · obtain ⟨f, hf, hfm⟩ := fat_lt (l := l1) (i := k) (by rw [HL.out]; exact hlt)
      have hfo := OK.out f hfm
      obtain ⟨ad, rfl, q0, q1, q2⟩ := (hz.frow r1).at_ hf
      have cP := Lib.hid (law_put w1.heap.size w1.heap.size 10000 n' c' A' _ wr f hfo hw (by omega) (by decide))
      rw [← D.writes_next hf] at cP
      clear hf hfm
      go_wp2_with (go_at_call 11; (with_reducible refine cP.out.mono ?_); rintro e w3 ⟨rfl, A3, n3, c3, h3, o3, x3⟩)
      go_roundw
      case rel => exact ⟨k + 1, n3, c3, A3, by omega, by go_num, h3, ⟨hw.below o3 hz.below⟩⟩
      case measure => simp [intOf]; omega
    · obtain rfl : n1 = k := by omega
      have hall := D.encs_len OK.out
      rw [HL.out] at hall
      rw [List.take_of_length_le (by rw [HL.out]; exact Nat.le_refl _), D.writes_all 10000 l1 [] (by simp; omega), List.nil_append] at hw
      obtain ⟨L, hL⟩ : ∃ L, D.encs l1 = L := ⟨_, rfl⟩
      rw [hL] at hw hall
      have HLL := Lib.hid hL
      obtain ⟨m, hm⟩ : ∃ m, L.length = m := ⟨_, rfl⟩
      have cB := w_bytes_is w1.heap.size w1.heap.size n' c' 10000 A' L wr hw (by omega)
      rw [hm] at cB hall
      have cB := Lib.hid cB
      have HM := Lib.hid hm
      obtain ⟨my, hmy⟩ : ∃ my, ((m : Int) - 1).toNat = my := ⟨_, rfl⟩
      have cX : Hid (∀ W : World, Calls Try.prog 10 #[.int .i64 m] W fun e w' => e = .returned (.pointer (some ⟨W.heap.size, 0, none⟩)) ∧ Wr W.heap.size w' W.heap.size none 0 0 ⟨[], 0⟩ m ∧ Below W.heap.size W w') := fun W => new_writer (m : Int) W (by omega) (by omega)
      have cY : Hid (∀ W : World, Calls Try.prog 10 #[.int .i64 ((m : Int) - 1)] W fun e w' => e = .returned (.pointer (some ⟨W.heap.size, 0, none⟩)) ∧ Wr W.heap.size w' W.heap.size none 0 0 ⟨[], 0⟩ my ∧ Below W.heap.size W w') := fun W => by
        have := new_writer ((m : Int) - 1) W (by omega) (by omega)
        rw [hmy] at this
        exact this
      have hmy2 : my ≤ m ∧ (0 < m → my < m) ∧ my ≤ 9223372036854775807 := by omega
      have HMY := Lib.hid hmy2
      clear hL hm hw hmy hmy2
      go_wp2_with (first
        | (go_at_call 12; (with_reducible refine cB.out.mono ?_); rintro e w3 ⟨B1, d1, rfl, rB1, hb3⟩; have z3 := hz.on hb3)
        | (go_at_call 10; (with_reducible refine (cX.out _).mono ?_); rintro e w4 ⟨rfl, hx4, hb4⟩)
        | (go_at_call 10; (with_reducible refine (cY.out _).mono ?_); rintro e w5 ⟨rfl, hy5, hb5⟩))
      have hx5 := hx4.on hb5
      have z35 : From w3 w5 := (From.mk hb4).on hb5
      have h34 := hb4.size
      have hd5 : Dis w3.heap.size none w4.heap.size none := ⟨fun i hi hj => by
        rcases hi with rfl | ⟨_, h, _⟩
        · rcases hj with hj | ⟨_, h, _⟩
          · have := hx4.blk.lt; omega
          · cases h
        · cases h⟩
      clear cB cX cY hb4 hb5 hx4
      go_loopw [9] (fun i wr => ∃ (k nx cx ny cy : Nat) (Ax Ay : Option Addr), k ≤ n1 ∧ i = .int .i64 k ∧ Wr w3.heap.size wr w3.heap.size Ax nx cx (D.writes m ⟨[], 0⟩ (l1.take k)) m ∧ Wr w4.heap.size wr w4.heap.size Ay ny cy (D.writes my ⟨[], 0⟩ (l1.take k)) my ∧ Dis w3.heap.size Ax w4.heap.size Ay ∧ From w3 wr) (fun i _ => n1 - (intOf i).toNat)
      case atStart => exact ⟨0, 0, 0, 0, 0, none, none, Nat.zero_le _, rfl, hx5, hy5, hd5, z35⟩
      case round =>
        clear hx5 hy5 hd5 z35
        obtain ⟨k, nx, cx, ny, cy, Ax, Ay, hk, rfl, hx, hy, hd, hz⟩ := hrel
        have hxl := hx.len
        have hyl := hy.len
        have hpx := put_len (m := m) OK.out (by rw [HL.out]; exact hn1) k
        have hpy := put_len (m := my) OK.out (by rw [HL.out]; exact hn1) k
        have hx5 : nx ≤ 5000 := by omega
        have hy5 : ny ≤ 5000 := by omega
        clear hxl hyl hpx hpy
        by_cases hlt : k < n1
        · obtain ⟨f, hf, hfm⟩ := fat_lt (l := l1) (i := k) (by rw [HL.out]; exact hlt)
          have hfo := OK.out f hfm
          have z1r := z3.on hz.below
          obtain ⟨ad, e1, _⟩ := (z1r.frow r1).at_ hf
          subst e1
          have cell := fun (w' : World) (z : From w1 w') => (z.frow r1).at_ hf
          obtain ⟨ad', e2, q0, q1, q2⟩ := cell wr z1r
          injection e2 with e2
          subst e2
          have cPx := Lib.hid (law_put w3.heap.size w3.heap.size m nx cx Ax _ wr f hfo hx (by omega) (by omega))
          have cPy := Lib.hid (fun W h => law_put w4.heap.size w4.heap.size my ny cy Ay (D.writes my ⟨[], 0⟩ (l1.take k)) W f hfo h (by omega) HMY.out.2.2)
          rw [← D.writes_next hf] at cPx cPy
          have CELL := Lib.hid cell
          clear hf hfm cell
          go_wp2_with (first
            | (go_at_call 11; (with_reducible refine cPx.out.mono ?_); rintro e w6 ⟨rfl, Ax', nx', cx', hx6, o6, x6⟩; have hy6 := hy.only o6 hd.symm.out; have z6 := hx.below o6 hz.below; have c6 := CELL.out w6 (z3.on z6); obtain ⟨ad6, e6, p0, p1, p2⟩ := c6; injection e6 with e6; subst e6)
            | (go_at_call 11; (with_reducible refine (cPy.out _ hy6).mono ?_); rintro e w7 ⟨rfl, Ay', ny', cy', hy7, o7, x7⟩))
          have hd6 := hd.next x6 hy.at_lt
          have hx7 := hx6.only o7 hd6.out
          have hd7 := (hd6.symm.next x7 hx6.at_lt).symm
          have z7 : From w3 w7 := ⟨z6.trans (o7.below (Nat.le_trans h34 hy6.own.base) (fun i hi => Nat.le_trans h34 (hy6.at_le i hi)))⟩
          go_roundw
          case rel => exact ⟨k + 1, nx', cx', ny', cy', Ax', Ay', by omega, by go_num, hx7, hy7, hd7, z7⟩
          case measure => simp [intOf]; omega
        · have ek : k = n1 := by omega
          rw [ek, List.take_of_length_le (l := l1) (by rw [HL.out]; exact Nat.le_refl _)] at hx hy
          rw [D.writes_all m l1 [] (by rw [HLL.out, HM.out]; simp), List.nil_append, HLL.out] at hx
          have cX := w_bytes_is w3.heap.size w3.heap.size nx cx m Ax L wr hx (by omega)
          rw [HM.out] at cX
          have cX := Lib.hid cX
          have cS := Lib.hid (fun B1 d1 B2 d2 W ha hb => same_any B1 B2 m d1 m d2 L L true W ha hb (by omega) (by omega) ⟨D.same_self _⟩)
          have Z := Lib.hid (z3.on hz.below)
          have RB := rB1.on hz.below
          by_cases h0 : 0 < m
          · have he : (D.writes my ⟨[], 0⟩ l1).err = 2 := D.writes_less my l1 [] (by rw [HLL.out, HM.out]; simp; exact HMY.out.2.1 h0) (by simp)
            have cY : Hid (∀ W, Wr w4.heap.size W w4.heap.size Ay ny cy (D.writes my ⟨[], 0⟩ l1) my → Calls Try.prog 12 #[.pointer (some ⟨w4.heap.size, 0, none⟩)] W fun e w' => ∃ B d, e = .returned (.tuple #[.slice B 0 d, .int .i64 2]) ∧ Below W.heap.size W w') := fun W h => w_bytes_none w4.heap.size w4.heap.size ny cy my Ay _ 2 W h (by omega) he (by omega) (by rw [outs, if_neg (by omega)])
            clear he ek hd
            go_wp2_with (first
              | (go_at_call 12; (with_reducible refine cX.out.mono ?_); rintro e w6 ⟨B6, d6, rfl, rB6, hb6⟩; have hy6 := hy.on hb6)
              | (go_at_call 12; (with_reducible refine (cY.out _ hy6).mono ?_); rintro e w7 ⟨B7, d7, rfl, hb7⟩)
              | (go_at_call 14; (with_reducible refine (known_any _).mono ?_); rintro en w8 ⟨rfl, hb8⟩)
              | (go_at_call 15; (with_reducible refine (cS.out _ _ _ _ _ (((RB.on hb6).on hb7).on hb8) ((rB6.on hb7).on hb8)).mono ?_); rintro e w9 ⟨rfl, q9, rfl⟩))
            go_ret
            exact ⟨rfl, (z1.on ((((Z.out.on hb6).on hb7).on hb8).drewN q9).below).below⟩
          · have hm0 : m = 0 := by omega
            have hmy0 : my = 0 := by have := HMY.out.1; omega
            have hw0 := D.writes_all my l1 [] (by rw [HLL.out, HM.out, hm0]; simp)
            rw [List.nil_append, HLL.out] at hw0
            have hL0 : L = [] := List.eq_nil_of_length_eq_zero (by rw [HM.out]; exact hm0)
            have cY : Hid (∀ W, Wr w4.heap.size W w4.heap.size Ay ny cy (D.writes my ⟨[], 0⟩ l1) my → Calls Try.prog 12 #[.pointer (some ⟨w4.heap.size, 0, none⟩)] W fun e w' => ∃ B d, e = .returned (.tuple #[.slice B 0 d, .int .i64 0]) ∧ Below W.heap.size W w') := fun W h => w_bytes_none w4.heap.size w4.heap.size ny cy my Ay _ 0 W h (by omega) (by rw [hw0]) (by omega) (by rw [hw0, outs, if_pos rfl]; exact hL0)
            clear hw0 hL0 hm0 hmy0 ek hd
            go_wp2_with (first
              | (go_at_call 12; (with_reducible refine cX.out.mono ?_); rintro e w6 ⟨B6, d6, rfl, rB6, hb6⟩; have hy6 := hy.on hb6)
              | (go_at_call 12; (with_reducible refine (cY.out _ hy6).mono ?_); rintro e w7 ⟨B7, d7, rfl, hb7⟩)
              | (go_at_call 14; (with_reducible refine (known_any _).mono ?_); rintro en w8 ⟨rfl, hb8⟩)
              | (go_at_call 15; (with_reducible refine (cS.out _ _ _ _ _ (((RB.on hb6).on hb7).on hb8) ((rB6.on hb7).on hb8)).mono ?_); rintro e w9 ⟨rfl, q9, rfl⟩))
            go_ret
            exact ⟨rfl, (z1.on ((((Z.out.on hb6).on hb7).on hb8).drewN q9).below).below⟩
theorem room_all (A : Option Addr) (n c : Nat) (l : List D.Fd) (w : World) (ha : FRow w A n l) (hl : ∀ f ∈ l, Raw f) (hn : n ≤ maxLen) :
    Calls Try.prog 7 #[.slice A n c] w fun e w' => e = .returned (.bool true) ∧ Below w.heap.size w w' := room_law A n c l w ha ⟨hl⟩ hn
end Go.Proofs.Ytnihkpcfnkimoaa
