/-
  The law of what follows the first error: its walk.
-/
import Derived.Test.YtnihkpcfnkimoaaRoomWalk
set_option linter.unusedVariables false
set_option linter.unusedSimpArgs false
namespace Go.Proofs.Ytnihkpcfnkimoaa
open Go.RowKit
attribute [local go_sem ↓] Go.wp_at_zero Go.wp_at_succ

theorem new5000 (w : World) : Calls Try.prog 10 #[.int .i64 5000] w fun e w' => e = .returned (.pointer (some ⟨w.heap.size, 0, none⟩)) ∧ Wr w.heap.size w' w.heap.size none 0 0 ⟨[], 0⟩ 5000 ∧ Below w.heap.size w w' := new_writer 5000 w (by decide) (by decide)
section
variable (q n c place e : Nat) (B : Option Addr) (l : List Nat) (w : World)
theorem r_number0 (h : Rd w q B n c l 0 0) : Calls Try.prog 23 #[.pointer (some ⟨q, 0, none⟩), .int .u64 0] w (Read q B n c l (.int .u64 (xx 0 (D.num 0 (l.drop 0)))) (pl 0 0 (D.num 0 (l.drop 0))) (er 0 (D.num 0 (l.drop 0))) w) := r_number q n c 0 0 B l w 0 (by decide) h
theorem get_stuck (k : Int) (mo : Nat) (hmo : mo < 18446744073709551616) (hk0 : 0 ≤ k) (hk4 : k ≤ 4) (he : e ≠ 0) (h : Rd w q B n c l place e) :
    Calls Try.prog 17 #[.pointer (some ⟨q, 0, none⟩), .int .i64 k, .int .u64 mo] w fun en w' => en = .returned (.tuple #[.int .u64 0, .string ⟨#[]⟩]) ∧ Rd w' q B n c l place e ∧ Only (fun i => i = q) w w' := by
  refine (law_get q n c place e B l w k mo (if k = 4 then mo % 1000000 else mo) hmo hk0 hk4 (fun h => by rw [if_neg h]) (fun h => by rw [if_pos h]) h).mono ?_
  rintro en w' ⟨he', hr, ho⟩
  rw [xx, ss, if_neg he, if_neg he] at he'
  rw [pl, er, if_neg he, if_neg he] at hr
  exact ⟨he', hr, ho⟩
end
theorem wr_drewN {base p n c room : Nat} {w : World} {A : Option Addr} {s : D.St} (h : Wr base w p A n c s room) (q : Nat) : Wr base (w.drewN q) p A n c s room := ⟨blk_drewN h.blk q, own_drewN h.own q, h.le⟩
theorem rd_drewN {w : World} {q n c place e : Nat} {B : Option Addr} {l : List Nat} (h : Rd w q B n c l place e) (u : Nat) : Rd (w.drewN u) q B n c l place e := ⟨blk_drewN h.blk u, h.row.drewN u, h.lt, h.le, h.nc, h.cm, h.small, h.off⟩
theorem rd_drew {w : World} {q n c place e : Nat} {B : Option Addr} {l : List Nat} (h : Rd w q B n c l place e) : Rd w.drew q B n c l place e := h.on (Below.refl _ _).drew
theorem wr_drew {base p n c room : Nat} {w : World} {A : Option Addr} {s : D.St} (h : Wr base w p A n c s room) : Wr base w.drew p A n c s room := h.on (Below.refl _ _).drew
theorem put_len10 {m : Nat} {s : D.St} {l : List D.Fd} (h : ∀ f ∈ l, f.ok) (hs : s.out.length ≤ 2) (hl : l.length ≤ 10) (k : Nat) : (D.writes m s (l.take k)).out.length ≤ 5000 := by
  have := D.writes_out (room := m) (l.take k) s fun f hf => h f (List.mem_of_mem_take hf)
  simp at this
  have h2 : min k l.length ≤ 10 := by omega
  omega

set_option maxRecDepth 100000 in
set_option maxHeartbeats 2000000 in
theorem sticks_in (x : Nat) (A A1 A2 : Option Addr) (n c m n2 c2 : Nat) (lb : List Nat) (l : List D.Fd) (w : World) (hx : x ≤ 65535) (hrow : Row w A1 m (bys lb)) (hlb : Kept (∀ b ∈ lb, b < 256)) (hm : m ≤ 100) (hmc : m ≤ c) (hc : c ≤ 9223372036854775807) (hf0 : FRow w A2 n2 l) (hl : Kept (∀ f ∈ l, Raw f)) (hn2 : n2 ≤ 9223372036854775807)
    (hmin : ∀ ts t W, (Builtin.min_ ts t #[.int .i64 (n : Int), .int .i64 100]).run Try.prog W = .ok (.int .i64 (m : Int)) W)
    (hcut : ∀ W, (Instr.slice 30 (.slice A n c) none (some (.int .i64 (m : Int))) none).run Try.prog W = .ok (.slice A1 m c) W) :
    Calls Try.prog 6 #[.int .i64 (x : Int), .slice A n c, .slice A2 n2 c2] w fun e w' => e = .returned (.bool true) ∧ Below w.heap.size w w' := by
  have z0 := from_self w
  have cR := Lib.hid (fun W (h : From w W) => right10 A2 n2 c2 l W (h.frow hf0) hl hn2)
  have hlen := hrow.len
  rw [bys_len] at hlen
  have HLB := Lib.hid hlen
  clear hlen
  obtain ⟨s0, hs0⟩ : ∃ s0 : D.St, ⟨D.be x 2, 0⟩ = s0 := ⟨_, rfl⟩
  have cS : Hid (∀ W p, Wr p W p none 0 0 ⟨[], 0⟩ 5000 → Calls Try.prog 22 #[.pointer (some ⟨p, 0, none⟩), .int .i64 (x : Int)] W (Wrote p p 5000 none s0 W)) := fun W p h => by
    rw [← hs0]
    have := w_short p p 5000 0 0 none ⟨[], 0⟩ W x hx h (by decide) (by decide)
    rw [D.wput_fits rfl (by simp [D.be_len])] at this
    exact this
  have HS0 := Lib.hid hs0
  have hs2 : s0.out.length ≤ 2 := by rw [← hs0]; simp [D.be_len]
  clear hs0
  obtain ⟨x1, hx1⟩ : ∃ x1, xx 0 (D.num 0 (lb.drop 0)) = x1 := ⟨_, rfl⟩
  obtain ⟨e1, he1⟩ : ∃ e1, er 0 (D.num 0 (lb.drop 0)) = e1 := ⟨_, rfl⟩
  obtain ⟨p1, hp1⟩ : ∃ p1, pl 0 0 (D.num 0 (lb.drop 0)) = p1 := ⟨_, rfl⟩
  obtain ⟨j, hj⟩ : ∃ j, m - p1 = j := ⟨_, rfl⟩
  have cNum : Hid (∀ q c B W, Rd W q B m c lb 0 0 → Calls Try.prog 23 #[.pointer (some ⟨q, 0, none⟩), .int .u64 0] W (Read q B m c lb (.int .u64 x1) p1 e1 W)) := fun q c B W h => by
    have := r_number0 q m c B lb W h
    rw [hx1, he1, hp1] at this
    exact this
  have cL : Hid (∀ q c B W, Rd W q B m c lb p1 e1 → Calls Try.prog 19 #[.pointer (some ⟨q, 0, none⟩)] W fun en w' => en = .returned (.int .i64 j) ∧ ∃ u, w' = W.drewN u) := fun q c B W h => by
    have := left_any q m c p1 e1 B W h.blk h.le (by omega)
    rw [hj] at this
    exact this
  have cD : Hid (∀ q c B W, e1 ≠ 0 → Rd W q B m c lb p1 e1 → Calls Try.prog 21 #[.pointer (some ⟨q, 0, none⟩)] W fun en w' => en = .returned (.int .i64 e1) ∧ ∃ u, w' = W.drewN u) := fun q c B W he h =>
    done_any q m c p1 e1 B W e1 h.blk h.le (by omega) ⟨by rw [dn, if_neg he]⟩
  clear hx1 he1 hp1 hj
  go_enter Try.func6, Try.ntmps6
  go_wp2_with fail
  go_region_held3 (fun _ => True) (trivial) (first
    | (go_at_call 9; (with_reducible refine (cR.out _ (from_drew z0)).mono ?_); rintro e w1 ⟨A3, n1, c1, l1, rfl, r1, ok1, hn1, _, _, hb1⟩; have z1 := (from_drew z0).on hb1)
    | (go_at_call 9; (with_reducible refine (cR.out _ z0).mono ?_); rintro e w1 ⟨A3, n1, c1, l1, rfl, r1, ok1, hn1, _, _, hb1⟩; have z1 := z0.on hb1))
  all_goals
    go_wp2_with (first
      | (go_at_call 10; (with_reducible refine (new5000 _).mono ?_); rintro e w2 ⟨rfl, hW, hb2⟩)
      | (go_at_call 22; (with_reducible refine (cS.out _ _ hW).mono ?_); rintro e w3 ⟨rfl, Aw, nw, cw, h3, o3, x3⟩; have z3 : From w1 w3 := ⟨hW.below o3 hb2⟩)
      | (go_at_call 16; (with_reducible refine (new_reader m c A1 lb _ (z3.row (z1.row hrow)) hlb (by omega)).mono ?_); rintro e w4 ⟨q, A', c', rfl, hrd, hHq, hHA, hb4⟩; have z4 := z3.on hb4; have h4 := h3.on hb4)
      | (go_at_call 23; (with_reducible refine (cNum.out _ _ _ _ hrd).mono ?_); rintro e w5 HT; have HE := HT.1; subst HE; have hrd5 := HT.2.1; have o5 := HT.2.2)
      | (go_at_call 20; (with_reducible refine (err_any _ _ _ _ _ _ _ hrd5.blk).mono ?_); rintro e w6 ⟨rfl, rfl⟩)
      | (go_at_call 19; (with_reducible refine (cL.out _ _ _ _ hrd5).mono ?_); rintro e w7 ⟨rfl, u7, rfl⟩))
    have hd5 : Dis w1.heap.size Aw q A' := ⟨fun i hi hj => by
      have h1 := h3.at_lt i hi
      rcases hj with rfl | hj
      · omega
      · have := hHA i hj; omega⟩
    have h5 := wr_drewN (h4.only o5 (fun i hi (e : i = q) => hd5.out i hi (.inl e))) u7
    have hrd7 := rd_drewN hrd5 u7
    have z5 := (z4.off o5 (Nat.le_trans z3.below.size hHq)).drewN u7
    have h45 : w4.heap.size ≤ (w5.drewN u7).heap.size := o5.size
    have OK := Lib.hid ok1
    have HL := Lib.hid r1.len
    have hql := hrd.blk.lt
    have h13 := z3.below.size
    clear cR ok1 hmin hcut cNum hrd hW h3 o3 h4 hrd5 o5 cS
    go_loopw [11] (fun i wr => ∃ (k n' c3 : Nat) (A4 : Option Addr), k ≤ n1 ∧ i = .int .i64 k ∧ Wr w1.heap.size wr w1.heap.size A4 n' c3 (D.writes 5000 s0 (l1.take k)) 5000 ∧ Rd wr q A' m c' lb p1 e1 ∧ Dis w1.heap.size A4 q A' ∧ From w1 wr ∧ w4.heap.size ≤ wr.heap.size) (fun i _ => n1 - (intOf i).toNat)
    case atStart => exact ⟨0, nw, cw, Aw, Nat.zero_le _, rfl, h5, hrd7, hd5, z5, h45⟩
    case round =>
      clear h5 hrd7 hd5 z5 h45
      obtain ⟨k, n', c3, A4, hk, rfl, hw, hrd, hd, hz, h4z⟩ := hrel
      have hlen := hw.len
      have hpl := put_len10 (m := 5000) OK.out hs2 (by rw [HL.out]; exact hn1) k
      have hn5 : n' ≤ 5000 := by omega
      clear hlen hpl
      by_cases hlt : k < n1
      · obtain ⟨f, hf, hfm⟩ := fat_lt (l := l1) (i := k) (by rw [HL.out]; exact hlt)
        have hfo := OK.out f hfm
        obtain ⟨ad, e1', _⟩ := (hz.frow r1).at_ hf
        subst e1'
        have cell := fun (w' : World) (z : From w1 w') => (z.frow r1).at_ hf
        obtain ⟨ad', e2, q0, q1, q2⟩ := cell wr hz
        injection e2 with e2
        subst e2
        have hHq1 : w1.heap.size ≤ q := Nat.le_trans h13 hHq
        have cP := Lib.hid (law_put w1.heap.size w1.heap.size 5000 n' c3 A4 _ wr f hfo hw (by omega) (by decide))
        rw [← D.writes_next hf] at cP
        have CELL := Lib.hid cell
        have hk0 := hfo.k0
        have hk4 := hfo.k4
        have hfn := hfo.n
        clear hf hfm cell
        by_cases he : e1 = 0
        · have hbe : ((e1 : Int) == 0) = true := by simp; exact he
          clear he
          go_wp2_with (go_at_call 11; (with_reducible refine cP.out.mono ?_); rintro e w8 ⟨rfl, A8, n8, c8, h8, o8, x8⟩)
          have hrd8 := hrd.only o8 (fun h => hd.out q h (.inl rfl)) (fun ad h hh => hd.out _ hh (.inr ⟨ad, h, rfl⟩))
          have hd8 := hd.next x8 (fun i hi => by
            rcases hi with rfl | hi
            · omega
            · have := hHA i hi; omega)
          have z8 : From w1 w8 := ⟨hw.below o8 hz.below⟩
          go_roundw
          case rel => exact ⟨k + 1, n8, c8, A8, by omega, by go_num, h8, hrd8, hd8, z8, Nat.le_trans h4z o8.size⟩
          case measure => simp [intOf]; omega
        · have hbe : ((e1 : Int) == 0) = false := by simp; exact he
          have cG := Lib.hid (fun W h => get_stuck q m c' p1 e1 A' lb W f.k f.n hfn hk0 hk4 he h)
          have cDD := Lib.hid (fun W h => cD.out q c' A' W he h)
          clear he
          go_wp2_with (go_at_call 11; (with_reducible refine cP.out.mono ?_); rintro e w8 ⟨rfl, A8, n8, c8, h8, o8, x8⟩)
          have hrd8 := hrd.only o8 (fun h => hd.out q h (.inl rfl)) (fun ad h hh => hd.out _ hh (.inr ⟨ad, h, rfl⟩))
          have hd8 := hd.next x8 (fun i hi => by
            rcases hi with rfl | hi
            · omega
            · have := hHA i hi; omega)
          have z8 : From w1 w8 := ⟨hw.below o8 hz.below⟩
          obtain ⟨ad8, e8, p0, pp1, pp2⟩ := CELL.out w8 z8
          injection e8 with e8
          subst e8
          have h48 := Nat.le_trans h4z o8.size
          have hki : (k : Int) < (n1 : Int) := by omega
          have hki0 : (0 : Int) ≤ (k : Int) := by omega
          go_region_held3 (fun W => W.cell? (ad.add (k * 3)) = some (.int .i64 f.k) ∧ W.cell? ⟨(ad.add (k * 3)).block, (ad.add (k * 3)).off + 1, none⟩ = some (.int .u64 f.n)) (go_keep) (first
            | (go_at_call 17; (with_reducible refine (cG.out _ (rd_drew hrd8)).mono ?_); rintro en w9 ⟨rfl, hrd9, o9⟩; have h9 := (wr_drew h8).only o9 (fun i hi (e : i = q) => hd8.out i hi (.inl e)); have z9 := (from_drew z8).off o9 hHq1; have hz9 : w8.heap.size ≤ w9.heap.size := o9.size; have y9 := CELL.out _ z9; obtain ⟨ad9, e9, y0, y1, y2⟩ := y9; injection e9 with e9; subst e9)
            | (go_at_call 17; (with_reducible refine (cG.out _ hrd8).mono ?_); rintro en w9 ⟨rfl, hrd9, o9⟩; have h9 := h8.only o9 (fun i hi (e : i = q) => hd8.out i hi (.inl e)); have z9 := z8.off o9 hHq1; have hz9 : w8.heap.size ≤ w9.heap.size := o9.size; have y9 := CELL.out _ z9; obtain ⟨ad9, e9, y0, y1, y2⟩ := y9; injection e9 with e9; subst e9))
          all_goals
            go_wp2_with (first
              | (go_at_call 20; (with_reducible refine (err_any _ _ _ _ _ _ _ hrd9.blk).mono ?_); rintro e ww ⟨rfl, rfl⟩)
              | (go_at_call 19; (with_reducible refine (cL.out _ _ _ _ hrd9).mono ?_); rintro e ww ⟨rfl, ul, rfl⟩)
              | (go_at_call 21; (with_reducible refine (cDD.out _ (rd_drewN hrd9 _)).mono ?_); rintro e ww ⟨rfl, ud, rfl⟩))
            go_roundw
            case rel => exact ⟨k + 1, n8, c8, A8, by omega, by go_num, wr_drewN h9 _, rd_drewN hrd9 _, hd8, z9.drewN _, Nat.le_trans h48 hz9⟩
            case measure => simp [intOf]; omega
      · have ek : k = n1 := by omega
        rw [ek, List.take_of_length_le (l := l1) (by rw [HL.out]; exact Nat.le_refl _)] at hw
        have hall := D.encs_len OK.out
        rw [HL.out] at hall
        rw [← HS0.out, D.writes_all 5000 l1 (D.be x 2) (by rw [D.be_len]; omega)] at hw
        have cB : Hid (Calls Try.prog 12 #[.pointer (some ⟨w1.heap.size, 0, none⟩)] wr fun e w' => ∃ B m d, e = .returned (.tuple #[.slice B m d, .int .i64 0]) ∧ 2 ≤ m ∧ m ≤ 5000 ∧ Below wr.heap.size wr w') :=
          (w_bytes_is w1.heap.size w1.heap.size n' c3 5000 A4 _ wr hw (by omega)).mono fun e w' ⟨B, d, he, _, hb⟩ => ⟨B, _, d, he, by simp [D.be_len], by simp [D.be_len]; omega, hb⟩
        have hx2 : (x : Int) < 65536 := by omega
        clear hall
        clear ek hw
        go_wp2_with (first
          | (go_at_call 12; (with_reducible refine cB.out.mono ?_); rintro e w8 ⟨B8, m8, d8, rfl, h28, h58, hb8⟩; have h2i : ¬ ((m8 : Int) < 2) := (by omega); have h2j : (2 : Int) ≤ (m8 : Int) := (by omega))
          | (go_at_call 14; (with_reducible refine (known_any _).mono ?_); rintro en w9 ⟨rfl, hb9⟩))
        go_ret
        exact ⟨rfl, (z1.on (((hz.on hb8).on hb9)).below).below⟩

set_option maxRecDepth 100000 in
set_option maxHeartbeats 2000000 in
theorem sticks_low (y : Int) (A A1 A2 : Option Addr) (n c m n2 c2 : Nat) (lb : List Nat) (l : List D.Fd) (w : World) (hy : y < 0) (hy1 : -9223372036854775808 ≤ y) (hrow : Row w A1 m (bys lb)) (hlb : Kept (∀ b ∈ lb, b < 256)) (hm : m ≤ 100) (hmc : m ≤ c) (hc : c ≤ 9223372036854775807) (hf0 : FRow w A2 n2 l) (hl : Kept (∀ f ∈ l, Raw f)) (hn2 : n2 ≤ 9223372036854775807)
    (hmin : ∀ ts t W, (Builtin.min_ ts t #[.int .i64 (n : Int), .int .i64 100]).run Try.prog W = .ok (.int .i64 (m : Int)) W)
    (hcut : ∀ W, (Instr.slice 30 (.slice A n c) none (some (.int .i64 (m : Int))) none).run Try.prog W = .ok (.slice A1 m c) W) :
    Calls Try.prog 6 #[.int .i64 y, .slice A n c, .slice A2 n2 c2] w fun e w' => e = .returned (.bool true) ∧ Below w.heap.size w w' := by
  have z0 := from_self w
  have cR := Lib.hid (fun W (h : From w W) => right10 A2 n2 c2 l W (h.frow hf0) hl hn2)
  have hlen := hrow.len
  rw [bys_len] at hlen
  have HLB := Lib.hid hlen
  clear hlen
  obtain ⟨s0, hs0⟩ : ∃ s0 : D.St, ⟨[], 5⟩ = s0 := ⟨_, rfl⟩
  have cS : Hid (∀ W p, Wr p W p none 0 0 ⟨[], 0⟩ 5000 → Calls Try.prog 22 #[.pointer (some ⟨p, 0, none⟩), .int .i64 y] W (Wrote p p 5000 none s0 W)) := fun W p h => by
    rw [← hs0]
    exact w_short_bad p p 5000 0 0 none ⟨[], 0⟩ W y (.inl hy) hy1 (by omega) h rfl
  have HS0 := Lib.hid hs0
  have hs2 : s0.out.length ≤ 2 := by rw [← hs0]; simp [D.be_len]
  clear hs0
  obtain ⟨x1, hx1⟩ : ∃ x1, xx 0 (D.num 0 (lb.drop 0)) = x1 := ⟨_, rfl⟩
  obtain ⟨e1, he1⟩ : ∃ e1, er 0 (D.num 0 (lb.drop 0)) = e1 := ⟨_, rfl⟩
  obtain ⟨p1, hp1⟩ : ∃ p1, pl 0 0 (D.num 0 (lb.drop 0)) = p1 := ⟨_, rfl⟩
  obtain ⟨j, hj⟩ : ∃ j, m - p1 = j := ⟨_, rfl⟩
  have cNum : Hid (∀ q c B W, Rd W q B m c lb 0 0 → Calls Try.prog 23 #[.pointer (some ⟨q, 0, none⟩), .int .u64 0] W (Read q B m c lb (.int .u64 x1) p1 e1 W)) := fun q c B W h => by
    have := r_number0 q m c B lb W h
    rw [hx1, he1, hp1] at this
    exact this
  have cL : Hid (∀ q c B W, Rd W q B m c lb p1 e1 → Calls Try.prog 19 #[.pointer (some ⟨q, 0, none⟩)] W fun en w' => en = .returned (.int .i64 j) ∧ ∃ u, w' = W.drewN u) := fun q c B W h => by
    have := left_any q m c p1 e1 B W h.blk h.le (by omega)
    rw [hj] at this
    exact this
  have cD : Hid (∀ q c B W, e1 ≠ 0 → Rd W q B m c lb p1 e1 → Calls Try.prog 21 #[.pointer (some ⟨q, 0, none⟩)] W fun en w' => en = .returned (.int .i64 e1) ∧ ∃ u, w' = W.drewN u) := fun q c B W he h =>
    done_any q m c p1 e1 B W e1 h.blk h.le (by omega) ⟨by rw [dn, if_neg he]⟩
  clear hx1 he1 hp1 hj
  go_enter Try.func6, Try.ntmps6
  go_wp2_with fail
  go_region_held3 (fun _ => True) (trivial) (first
    | (go_at_call 9; (with_reducible refine (cR.out _ (from_drew z0)).mono ?_); rintro e w1 ⟨A3, n1, c1, l1, rfl, r1, ok1, hn1, _, _, hb1⟩; have z1 := (from_drew z0).on hb1)
    | (go_at_call 9; (with_reducible refine (cR.out _ z0).mono ?_); rintro e w1 ⟨A3, n1, c1, l1, rfl, r1, ok1, hn1, _, _, hb1⟩; have z1 := z0.on hb1))
  all_goals
    go_wp2_with (first
      | (go_at_call 10; (with_reducible refine (new5000 _).mono ?_); rintro e w2 ⟨rfl, hW, hb2⟩)
      | (go_at_call 22; (with_reducible refine (cS.out _ _ hW).mono ?_); rintro e w3 ⟨rfl, Aw, nw, cw, h3, o3, x3⟩; have z3 : From w1 w3 := ⟨hW.below o3 hb2⟩)
      | (go_at_call 16; (with_reducible refine (new_reader m c A1 lb _ (z3.row (z1.row hrow)) hlb (by omega)).mono ?_); rintro e w4 ⟨q, A', c', rfl, hrd, hHq, hHA, hb4⟩; have z4 := z3.on hb4; have h4 := h3.on hb4)
      | (go_at_call 23; (with_reducible refine (cNum.out _ _ _ _ hrd).mono ?_); rintro e w5 HT; have HE := HT.1; subst HE; have hrd5 := HT.2.1; have o5 := HT.2.2)
      | (go_at_call 20; (with_reducible refine (err_any _ _ _ _ _ _ _ hrd5.blk).mono ?_); rintro e w6 ⟨rfl, rfl⟩)
      | (go_at_call 19; (with_reducible refine (cL.out _ _ _ _ hrd5).mono ?_); rintro e w7 ⟨rfl, u7, rfl⟩))
    have hd5 : Dis w1.heap.size Aw q A' := ⟨fun i hi hj => by
      have h1 := h3.at_lt i hi
      rcases hj with rfl | hj
      · omega
      · have := hHA i hj; omega⟩
    have h5 := wr_drewN (h4.only o5 (fun i hi (e : i = q) => hd5.out i hi (.inl e))) u7
    have hrd7 := rd_drewN hrd5 u7
    have z5 := (z4.off o5 (Nat.le_trans z3.below.size hHq)).drewN u7
    have h45 : w4.heap.size ≤ (w5.drewN u7).heap.size := o5.size
    have OK := Lib.hid ok1
    have HL := Lib.hid r1.len
    have hql := hrd.blk.lt
    have h13 := z3.below.size
    clear cR ok1 hmin hcut cNum hrd hW h3 o3 h4 hrd5 o5 cS
    go_loopw [11] (fun i wr => ∃ (k n' c3 : Nat) (A4 : Option Addr), k ≤ n1 ∧ i = .int .i64 k ∧ Wr w1.heap.size wr w1.heap.size A4 n' c3 (D.writes 5000 s0 (l1.take k)) 5000 ∧ Rd wr q A' m c' lb p1 e1 ∧ Dis w1.heap.size A4 q A' ∧ From w1 wr ∧ w4.heap.size ≤ wr.heap.size) (fun i _ => n1 - (intOf i).toNat)
    case atStart => exact ⟨0, nw, cw, Aw, Nat.zero_le _, rfl, h5, hrd7, hd5, z5, h45⟩
    case round =>
      clear h5 hrd7 hd5 z5 h45
      obtain ⟨k, n', c3, A4, hk, rfl, hw, hrd, hd, hz, h4z⟩ := hrel
      have hlen := hw.len
      have hpl := put_len10 (m := 5000) OK.out hs2 (by rw [HL.out]; exact hn1) k
      have hn5 : n' ≤ 5000 := by omega
      clear hlen hpl
      by_cases hlt : k < n1
      · obtain ⟨f, hf, hfm⟩ := fat_lt (l := l1) (i := k) (by rw [HL.out]; exact hlt)
        have hfo := OK.out f hfm
        obtain ⟨ad, e1', _⟩ := (hz.frow r1).at_ hf
        subst e1'
        have cell := fun (w' : World) (z : From w1 w') => (z.frow r1).at_ hf
        obtain ⟨ad', e2, q0, q1, q2⟩ := cell wr hz
        injection e2 with e2
        subst e2
        have hHq1 : w1.heap.size ≤ q := Nat.le_trans h13 hHq
        have cP := Lib.hid (law_put w1.heap.size w1.heap.size 5000 n' c3 A4 _ wr f hfo hw (by omega) (by decide))
        rw [← D.writes_next hf] at cP
        have CELL := Lib.hid cell
        have hk0 := hfo.k0
        have hk4 := hfo.k4
        have hfn := hfo.n
        clear hf hfm cell
        by_cases he : e1 = 0
        · have hbe : ((e1 : Int) == 0) = true := by simp; exact he
          clear he
          go_wp2_with (go_at_call 11; (with_reducible refine cP.out.mono ?_); rintro e w8 ⟨rfl, A8, n8, c8, h8, o8, x8⟩)
          have hrd8 := hrd.only o8 (fun h => hd.out q h (.inl rfl)) (fun ad h hh => hd.out _ hh (.inr ⟨ad, h, rfl⟩))
          have hd8 := hd.next x8 (fun i hi => by
            rcases hi with rfl | hi
            · omega
            · have := hHA i hi; omega)
          have z8 : From w1 w8 := ⟨hw.below o8 hz.below⟩
          go_roundw
          case rel => exact ⟨k + 1, n8, c8, A8, by omega, by go_num, h8, hrd8, hd8, z8, Nat.le_trans h4z o8.size⟩
          case measure => simp [intOf]; omega
        · have hbe : ((e1 : Int) == 0) = false := by simp; exact he
          have cG := Lib.hid (fun W h => get_stuck q m c' p1 e1 A' lb W f.k f.n hfn hk0 hk4 he h)
          have cDD := Lib.hid (fun W h => cD.out q c' A' W he h)
          clear he
          go_wp2_with (go_at_call 11; (with_reducible refine cP.out.mono ?_); rintro e w8 ⟨rfl, A8, n8, c8, h8, o8, x8⟩)
          have hrd8 := hrd.only o8 (fun h => hd.out q h (.inl rfl)) (fun ad h hh => hd.out _ hh (.inr ⟨ad, h, rfl⟩))
          have hd8 := hd.next x8 (fun i hi => by
            rcases hi with rfl | hi
            · omega
            · have := hHA i hi; omega)
          have z8 : From w1 w8 := ⟨hw.below o8 hz.below⟩
          obtain ⟨ad8, e8, p0, pp1, pp2⟩ := CELL.out w8 z8
          injection e8 with e8
          subst e8
          have h48 := Nat.le_trans h4z o8.size
          have hki : (k : Int) < (n1 : Int) := by omega
          have hki0 : (0 : Int) ≤ (k : Int) := by omega
          go_region_held3 (fun W => W.cell? (ad.add (k * 3)) = some (.int .i64 f.k) ∧ W.cell? ⟨(ad.add (k * 3)).block, (ad.add (k * 3)).off + 1, none⟩ = some (.int .u64 f.n)) (go_keep) (first
            | (go_at_call 17; (with_reducible refine (cG.out _ (rd_drew hrd8)).mono ?_); rintro en w9 ⟨rfl, hrd9, o9⟩; have h9 := (wr_drew h8).only o9 (fun i hi (e : i = q) => hd8.out i hi (.inl e)); have z9 := (from_drew z8).off o9 hHq1; have hz9 : w8.heap.size ≤ w9.heap.size := o9.size; have y9 := CELL.out _ z9; obtain ⟨ad9, e9, y0, y1, y2⟩ := y9; injection e9 with e9; subst e9)
            | (go_at_call 17; (with_reducible refine (cG.out _ hrd8).mono ?_); rintro en w9 ⟨rfl, hrd9, o9⟩; have h9 := h8.only o9 (fun i hi (e : i = q) => hd8.out i hi (.inl e)); have z9 := z8.off o9 hHq1; have hz9 : w8.heap.size ≤ w9.heap.size := o9.size; have y9 := CELL.out _ z9; obtain ⟨ad9, e9, y0, y1, y2⟩ := y9; injection e9 with e9; subst e9))
          all_goals
            go_wp2_with (first
              | (go_at_call 20; (with_reducible refine (err_any _ _ _ _ _ _ _ hrd9.blk).mono ?_); rintro e ww ⟨rfl, rfl⟩)
              | (go_at_call 19; (with_reducible refine (cL.out _ _ _ _ hrd9).mono ?_); rintro e ww ⟨rfl, ul, rfl⟩)
              | (go_at_call 21; (with_reducible refine (cDD.out _ (rd_drewN hrd9 _)).mono ?_); rintro e ww ⟨rfl, ud, rfl⟩))
            go_roundw
            case rel => exact ⟨k + 1, n8, c8, A8, by omega, by go_num, wr_drewN h9 _, rd_drewN hrd9 _, hd8, z9.drewN _, Nat.le_trans h48 hz9⟩
            case measure => simp [intOf]; omega
      · have ek : k = n1 := by omega
        rw [ek, List.take_of_length_le (l := l1) (by rw [HL.out]; exact Nat.le_refl _)] at hw
        rw [← HS0.out, D.writes_stuck l1 (by simp)] at hw
        have cB : Hid (Calls Try.prog 12 #[.pointer (some ⟨w1.heap.size, 0, none⟩)] wr fun e w' => ∃ B d, e = .returned (.tuple #[.slice B 0 d, .int .i64 5]) ∧ Below wr.heap.size wr w') :=
          w_bytes_none w1.heap.size w1.heap.size n' c3 5000 A4 _ 5 wr hw (by omega) rfl (by omega) (by rw [outs, if_neg (by simp)])
        clear ek hw
        go_wp2_with (first
          | (go_at_call 12; (with_reducible refine cB.out.mono ?_); rintro e w8 ⟨B8, d8, rfl, hb8⟩)
          | (go_at_call 14; (with_reducible refine (known_any _).mono ?_); rintro en w9 ⟨rfl, hb9⟩))
        go_ret
        exact ⟨rfl, (z1.on (((hz.on hb8).on hb9)).below).below⟩

set_option maxRecDepth 100000 in
set_option maxHeartbeats 2000000 in
theorem sticks_high (y : Int) (A A1 A2 : Option Addr) (n c m n2 c2 : Nat) (lb : List Nat) (l : List D.Fd) (w : World) (hy : 65535 < y) (hy1 : y ≤ 9223372036854775807) (hrow : Row w A1 m (bys lb)) (hlb : Kept (∀ b ∈ lb, b < 256)) (hm : m ≤ 100) (hmc : m ≤ c) (hc : c ≤ 9223372036854775807) (hf0 : FRow w A2 n2 l) (hl : Kept (∀ f ∈ l, Raw f)) (hn2 : n2 ≤ 9223372036854775807)
    (hmin : ∀ ts t W, (Builtin.min_ ts t #[.int .i64 (n : Int), .int .i64 100]).run Try.prog W = .ok (.int .i64 (m : Int)) W)
    (hcut : ∀ W, (Instr.slice 30 (.slice A n c) none (some (.int .i64 (m : Int))) none).run Try.prog W = .ok (.slice A1 m c) W) :
    Calls Try.prog 6 #[.int .i64 y, .slice A n c, .slice A2 n2 c2] w fun e w' => e = .returned (.bool true) ∧ Below w.heap.size w w' := by
  have z0 := from_self w
  have cR := Lib.hid (fun W (h : From w W) => right10 A2 n2 c2 l W (h.frow hf0) hl hn2)
  have hlen := hrow.len
  rw [bys_len] at hlen
  have HLB := Lib.hid hlen
  clear hlen
  obtain ⟨s0, hs0⟩ : ∃ s0 : D.St, ⟨[], 5⟩ = s0 := ⟨_, rfl⟩
  have cS : Hid (∀ W p, Wr p W p none 0 0 ⟨[], 0⟩ 5000 → Calls Try.prog 22 #[.pointer (some ⟨p, 0, none⟩), .int .i64 y] W (Wrote p p 5000 none s0 W)) := fun W p h => by
    rw [← hs0]
    exact w_short_bad p p 5000 0 0 none ⟨[], 0⟩ W y (.inr hy) (by omega) hy1 h rfl
  have HS0 := Lib.hid hs0
  have hs2 : s0.out.length ≤ 2 := by rw [← hs0]; simp [D.be_len]
  clear hs0
  obtain ⟨x1, hx1⟩ : ∃ x1, xx 0 (D.num 0 (lb.drop 0)) = x1 := ⟨_, rfl⟩
  obtain ⟨e1, he1⟩ : ∃ e1, er 0 (D.num 0 (lb.drop 0)) = e1 := ⟨_, rfl⟩
  obtain ⟨p1, hp1⟩ : ∃ p1, pl 0 0 (D.num 0 (lb.drop 0)) = p1 := ⟨_, rfl⟩
  obtain ⟨j, hj⟩ : ∃ j, m - p1 = j := ⟨_, rfl⟩
  have cNum : Hid (∀ q c B W, Rd W q B m c lb 0 0 → Calls Try.prog 23 #[.pointer (some ⟨q, 0, none⟩), .int .u64 0] W (Read q B m c lb (.int .u64 x1) p1 e1 W)) := fun q c B W h => by
    have := r_number0 q m c B lb W h
    rw [hx1, he1, hp1] at this
    exact this
  have cL : Hid (∀ q c B W, Rd W q B m c lb p1 e1 → Calls Try.prog 19 #[.pointer (some ⟨q, 0, none⟩)] W fun en w' => en = .returned (.int .i64 j) ∧ ∃ u, w' = W.drewN u) := fun q c B W h => by
    have := left_any q m c p1 e1 B W h.blk h.le (by omega)
    rw [hj] at this
    exact this
  have cD : Hid (∀ q c B W, e1 ≠ 0 → Rd W q B m c lb p1 e1 → Calls Try.prog 21 #[.pointer (some ⟨q, 0, none⟩)] W fun en w' => en = .returned (.int .i64 e1) ∧ ∃ u, w' = W.drewN u) := fun q c B W he h =>
    done_any q m c p1 e1 B W e1 h.blk h.le (by omega) ⟨by rw [dn, if_neg he]⟩
  clear hx1 he1 hp1 hj
  go_enter Try.func6, Try.ntmps6
  go_wp2_with fail
  go_region_held3 (fun _ => True) (trivial) (first
    | (go_at_call 9; (with_reducible refine (cR.out _ (from_drew z0)).mono ?_); rintro e w1 ⟨A3, n1, c1, l1, rfl, r1, ok1, hn1, _, _, hb1⟩; have z1 := (from_drew z0).on hb1)
    | (go_at_call 9; (with_reducible refine (cR.out _ z0).mono ?_); rintro e w1 ⟨A3, n1, c1, l1, rfl, r1, ok1, hn1, _, _, hb1⟩; have z1 := z0.on hb1))
  all_goals
    go_wp2_with (first
      | (go_at_call 10; (with_reducible refine (new5000 _).mono ?_); rintro e w2 ⟨rfl, hW, hb2⟩)
      | (go_at_call 22; (with_reducible refine (cS.out _ _ hW).mono ?_); rintro e w3 ⟨rfl, Aw, nw, cw, h3, o3, x3⟩; have z3 : From w1 w3 := ⟨hW.below o3 hb2⟩)
      | (go_at_call 16; (with_reducible refine (new_reader m c A1 lb _ (z3.row (z1.row hrow)) hlb (by omega)).mono ?_); rintro e w4 ⟨q, A', c', rfl, hrd, hHq, hHA, hb4⟩; have z4 := z3.on hb4; have h4 := h3.on hb4)
      | (go_at_call 23; (with_reducible refine (cNum.out _ _ _ _ hrd).mono ?_); rintro e w5 HT; have HE := HT.1; subst HE; have hrd5 := HT.2.1; have o5 := HT.2.2)
      | (go_at_call 20; (with_reducible refine (err_any _ _ _ _ _ _ _ hrd5.blk).mono ?_); rintro e w6 ⟨rfl, rfl⟩)
      | (go_at_call 19; (with_reducible refine (cL.out _ _ _ _ hrd5).mono ?_); rintro e w7 ⟨rfl, u7, rfl⟩))
    have hd5 : Dis w1.heap.size Aw q A' := ⟨fun i hi hj => by
      have h1 := h3.at_lt i hi
      rcases hj with rfl | hj
      · omega
      · have := hHA i hj; omega⟩
    have h5 := wr_drewN (h4.only o5 (fun i hi (e : i = q) => hd5.out i hi (.inl e))) u7
    have hrd7 := rd_drewN hrd5 u7
    have z5 := (z4.off o5 (Nat.le_trans z3.below.size hHq)).drewN u7
    have h45 : w4.heap.size ≤ (w5.drewN u7).heap.size := o5.size
    have OK := Lib.hid ok1
    have HL := Lib.hid r1.len
    have hql := hrd.blk.lt
    have h13 := z3.below.size
    clear cR ok1 hmin hcut cNum hrd hW h3 o3 h4 hrd5 o5 cS
    go_loopw [11] (fun i wr => ∃ (k n' c3 : Nat) (A4 : Option Addr), k ≤ n1 ∧ i = .int .i64 k ∧ Wr w1.heap.size wr w1.heap.size A4 n' c3 (D.writes 5000 s0 (l1.take k)) 5000 ∧ Rd wr q A' m c' lb p1 e1 ∧ Dis w1.heap.size A4 q A' ∧ From w1 wr ∧ w4.heap.size ≤ wr.heap.size) (fun i _ => n1 - (intOf i).toNat)
    case atStart => exact ⟨0, nw, cw, Aw, Nat.zero_le _, rfl, h5, hrd7, hd5, z5, h45⟩
    case round =>
      clear h5 hrd7 hd5 z5 h45
      obtain ⟨k, n', c3, A4, hk, rfl, hw, hrd, hd, hz, h4z⟩ := hrel
      have hlen := hw.len
      have hpl := put_len10 (m := 5000) OK.out hs2 (by rw [HL.out]; exact hn1) k
      have hn5 : n' ≤ 5000 := by omega
      clear hlen hpl
      by_cases hlt : k < n1
      · obtain ⟨f, hf, hfm⟩ := fat_lt (l := l1) (i := k) (by rw [HL.out]; exact hlt)
        have hfo := OK.out f hfm
        obtain ⟨ad, e1', _⟩ := (hz.frow r1).at_ hf
        subst e1'
        have cell := fun (w' : World) (z : From w1 w') => (z.frow r1).at_ hf
        obtain ⟨ad', e2, q0, q1, q2⟩ := cell wr hz
        injection e2 with e2
        subst e2
        have hHq1 : w1.heap.size ≤ q := Nat.le_trans h13 hHq
        have cP := Lib.hid (law_put w1.heap.size w1.heap.size 5000 n' c3 A4 _ wr f hfo hw (by omega) (by decide))
        rw [← D.writes_next hf] at cP
        have CELL := Lib.hid cell
        have hk0 := hfo.k0
        have hk4 := hfo.k4
        have hfn := hfo.n
        clear hf hfm cell
        by_cases he : e1 = 0
        · have hbe : ((e1 : Int) == 0) = true := by simp; exact he
          clear he
          go_wp2_with (go_at_call 11; (with_reducible refine cP.out.mono ?_); rintro e w8 ⟨rfl, A8, n8, c8, h8, o8, x8⟩)
          have hrd8 := hrd.only o8 (fun h => hd.out q h (.inl rfl)) (fun ad h hh => hd.out _ hh (.inr ⟨ad, h, rfl⟩))
          have hd8 := hd.next x8 (fun i hi => by
            rcases hi with rfl | hi
            · omega
            · have := hHA i hi; omega)
          have z8 : From w1 w8 := ⟨hw.below o8 hz.below⟩
          go_roundw
          case rel => exact ⟨k + 1, n8, c8, A8, by omega, by go_num, h8, hrd8, hd8, z8, Nat.le_trans h4z o8.size⟩
          case measure => simp [intOf]; omega
        · have hbe : ((e1 : Int) == 0) = false := by simp; exact he
          have cG := Lib.hid (fun W h => get_stuck q m c' p1 e1 A' lb W f.k f.n hfn hk0 hk4 he h)
          have cDD := Lib.hid (fun W h => cD.out q c' A' W he h)
          clear he
          go_wp2_with (go_at_call 11; (with_reducible refine cP.out.mono ?_); rintro e w8 ⟨rfl, A8, n8, c8, h8, o8, x8⟩)
          have hrd8 := hrd.only o8 (fun h => hd.out q h (.inl rfl)) (fun ad h hh => hd.out _ hh (.inr ⟨ad, h, rfl⟩))
          have hd8 := hd.next x8 (fun i hi => by
            rcases hi with rfl | hi
            · omega
            · have := hHA i hi; omega)
          have z8 : From w1 w8 := ⟨hw.below o8 hz.below⟩
          obtain ⟨ad8, e8, p0, pp1, pp2⟩ := CELL.out w8 z8
          injection e8 with e8
          subst e8
          have h48 := Nat.le_trans h4z o8.size
          have hki : (k : Int) < (n1 : Int) := by omega
          have hki0 : (0 : Int) ≤ (k : Int) := by omega
          go_region_held3 (fun W => W.cell? (ad.add (k * 3)) = some (.int .i64 f.k) ∧ W.cell? ⟨(ad.add (k * 3)).block, (ad.add (k * 3)).off + 1, none⟩ = some (.int .u64 f.n)) (go_keep) (first
            | (go_at_call 17; (with_reducible refine (cG.out _ (rd_drew hrd8)).mono ?_); rintro en w9 ⟨rfl, hrd9, o9⟩; have h9 := (wr_drew h8).only o9 (fun i hi (e : i = q) => hd8.out i hi (.inl e)); have z9 := (from_drew z8).off o9 hHq1; have hz9 : w8.heap.size ≤ w9.heap.size := o9.size; have y9 := CELL.out _ z9; obtain ⟨ad9, e9, y0, y1, y2⟩ := y9; injection e9 with e9; subst e9)
            | (go_at_call 17; (with_reducible refine (cG.out _ hrd8).mono ?_); rintro en w9 ⟨rfl, hrd9, o9⟩; have h9 := h8.only o9 (fun i hi (e : i = q) => hd8.out i hi (.inl e)); have z9 := z8.off o9 hHq1; have hz9 : w8.heap.size ≤ w9.heap.size := o9.size; have y9 := CELL.out _ z9; obtain ⟨ad9, e9, y0, y1, y2⟩ := y9; injection e9 with e9; subst e9))
          all_goals
            go_wp2_with (first
              | (go_at_call 20; (with_reducible refine (err_any _ _ _ _ _ _ _ hrd9.blk).mono ?_); rintro e ww ⟨rfl, rfl⟩)
              | (go_at_call 19; (with_reducible refine (cL.out _ _ _ _ hrd9).mono ?_); rintro e ww ⟨rfl, ul, rfl⟩)
              | (go_at_call 21; (with_reducible refine (cDD.out _ (rd_drewN hrd9 _)).mono ?_); rintro e ww ⟨rfl, ud, rfl⟩))
            go_roundw
            case rel => exact ⟨k + 1, n8, c8, A8, by omega, by go_num, wr_drewN h9 _, rd_drewN hrd9 _, hd8, z9.drewN _, Nat.le_trans h48 hz9⟩
            case measure => simp [intOf]; omega
      · have ek : k = n1 := by omega
        rw [ek, List.take_of_length_le (l := l1) (by rw [HL.out]; exact Nat.le_refl _)] at hw
        rw [← HS0.out, D.writes_stuck l1 (by simp)] at hw
        have cB : Hid (Calls Try.prog 12 #[.pointer (some ⟨w1.heap.size, 0, none⟩)] wr fun e w' => ∃ B d, e = .returned (.tuple #[.slice B 0 d, .int .i64 5]) ∧ Below wr.heap.size wr w') :=
          w_bytes_none w1.heap.size w1.heap.size n' c3 5000 A4 _ 5 wr hw (by omega) rfl (by omega) (by rw [outs, if_neg (by simp)])
        clear ek hw
        go_wp2_with (first
          | (go_at_call 12; (with_reducible refine cB.out.mono ?_); rintro e w8 ⟨B8, d8, rfl, hb8⟩)
          | (go_at_call 14; (with_reducible refine (known_any _).mono ?_); rintro en w9 ⟨rfl, hb9⟩))
        go_ret
        exact ⟨rfl, (z1.on (((hz.on hb8).on hb9)).below).below⟩
theorem sticks_all (r : Int) (A : Option Addr) (n c : Nat) (lb : List Nat) (A2 : Option Addr) (n2 c2 : Nat) (l : List D.Fd) (w : World) (hr : (Lit.int .i64 r).wf = true) (hb : Row w A n (bys lb)) (hlb : ∀ b ∈ lb, b < 256) (hnc : n ≤ c) (hc : c ≤ maxLen) (ha : FRow w A2 n2 l) (hl : ∀ f ∈ l, Raw f) (hn : n2 ≤ maxLen) :
    Calls Try.prog 6 #[.int .i64 r, .slice A n c, .slice A2 n2 c2] w fun e w' => e = .returned (.bool true) ∧ Below w.heap.size w w' := by
  obtain ⟨h1, h2⟩ := bounds_i64 hr
  obtain ⟨m, hm1, hm2, hmin⟩ := min_run n 100 100 rfl
  obtain ⟨A1, hcut, hR⟩ := upto_run_b A n c m m rfl (by omega)
  have q1 := hR w _ hb hm1
  rw [bys_take] at q1
  have q2 : Kept (∀ b ∈ lb.take m, b < 256) := ⟨fun b h => hlb b (List.mem_of_mem_take h)⟩
  by_cases hlo : r < 0
  · exact sticks_low r A A1 A2 n c m n2 c2 (lb.take m) l w hlo h1 q1 q2 hm2 (by omega) hc ha ⟨hl⟩ hn hmin hcut
  · by_cases hhi : 65535 < r
    · exact sticks_high r A A1 A2 n c m n2 c2 (lb.take m) l w hhi h2 q1 q2 hm2 (by omega) hc ha ⟨hl⟩ hn hmin hcut
    · obtain ⟨x, rfl⟩ : ∃ x : Nat, r = x := ⟨r.toNat, by omega⟩
      exact sticks_in x A A1 A2 n c m n2 c2 (lb.take m) l w (by omega) q1 q2 hm2 (by omega) hc ha ⟨hl⟩ hn hmin hcut
end Go.Proofs.Ytnihkpcfnkimoaa
