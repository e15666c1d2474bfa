/-
  The law of languages' sets, and of words: its walk.
-/
import Derived.Test.YtpiajeonnhfanaaDoorPlz
import Derived.Test.YtpiajeonnhfanaaDoorPlk
import Derived.Test.YtpiajeonnhfanaaDoorPli
import Derived.Test.YtpiajeonnhfanaaDoorPlw
import Derived.Test.YtpiajeonnhfanaaDoorPlv
set_option linter.unusedVariables false
set_option linter.unusedSimpArgs false
set_option maxRecDepth 100000
namespace Go.Proofs.YtpiajeonnhfanaaDoor
open Go.RowKit
attribute [local go_sem ↓] Go.wp_at_zero Go.wp_at_succ ld_a ld_n st_a st_n eq_a eq_n ne_a ne_n lv_a lv_n lp_3 lp_4
attribute [local go_sem] run_ld_a run_ld_n run_sw_a run_sw_n run_eq_a run_eq_n run_ne_a run_ne_n run_lv_a run_lv_n st_z ne_z eq_z rd_new rd_old rd_drew rd_drewN rd_set tn_new tn_old tn_drew tn_drewN setRow_alloc run_lp_3 run_lp_4 rd_ext cell_ext
namespace D
theorem cats_pre (g : Nat) : ∀ (d c : Nat), ∃ r, cats g (c + d) = cats g c ++ r
  | 0, c => ⟨[], by simp⟩
  | d + 1, c => by
    obtain ⟨r, h⟩ := cats_pre g d c
    rw [show c + (d + 1) = (c + d) + 1 by omega, cats, h]
    split
    · exact ⟨r ++ [c + d], by simp⟩
    · exact ⟨r, rfl⟩
theorem cats_at {g z : Nat} (hz : z < 6) (h : inn g z = true) : (cats g 6)[(cats g z).length]? = some z := by
  obtain ⟨r, e⟩ := cats_pre g (6 - (z + 1)) (z + 1)
  rw [show z + 1 + (6 - (z + 1)) = 6 by omega] at e
  rw [e, cats, if_pos h]
  simp
theorem cats_no {g z : Nat} (h : inn g z = false) : cats g (z + 1) = cats g z := by rw [cats, h]; rfl
theorem cats_yes {g z : Nat} (h : inn g z = true) : (cats g (z + 1)).length = (cats g z).length + 1 := by rw [cats, h]; simp
theorem rdw_iff {l : List Nat} {k : Nat} (hk : k < 6) : wrds.getD k [] = l ↔ rdw l = some k := by
  constructor
  · exact rdw_some hk
  · intro h
    have := List.find?_some h
    simpa using this
theorem rdw_lt {l : List Nat} {k : Nat} (h : rdw l = some k) : k < 6 := by
  have := List.mem_of_find?_eq_some h
  simpa using this
/-- What the law's second loop has found so far. -/
def wk (o : Option Nat) (k : Nat) : Nat := match o with
  | some j => if j < k then j else 0
  | none => 0
def rdo (o : Option Nat) : Nat × Nat := match o with
  | some k => (k, 0)
  | none => (0, 15)
theorem rda_o (l : List Nat) : rda l = rdo (rdw l) := rfl
def fk (o : Option Nat) (k : Nat) : Bool := match o with
  | some j => decide (j < k)
  | none => false
theorem wk_yes (k : Nat) : wk (some k) (k + 1) = k ∧ fk (some k) (k + 1) = true := by simp [wk, fk]
theorem wk_no {o : Option Nat} {k : Nat} (h : o ≠ some k) : wk o (k + 1) = wk o k ∧ fk o (k + 1) = fk o k := by
  cases o with
  | none => exact ⟨rfl, rfl⟩
  | some j =>
    have : j ≠ k := fun e => h (by rw [e])
    constructor
    · simp only [wk]
      by_cases h1 : j < k
      · rw [if_pos h1, if_pos (by omega)]
      · rw [if_neg h1, if_neg (by omega)]
    · simp only [fk]
      exact decide_eq_decide.2 (by omega)
theorem wk_end {j : Nat} (h : j < 6) : wk (some j) 6 = j ∧ fk (some j) 6 = true := by simp [wk, fk, h]
end D
theorem min_lit (z : Int) (h : z ≤ 5) : ∀ ts t W, (Builtin.min_ ts t #[.int .i64 z, .int .i64 5]).run Tryd.prog W = .ok (.int .i64 z) W := fun ts t W => by
  by_cases e : z = 5
  · subst e; simp [Builtin.min_, Builtin.min2, go_sem]
  · have : z < 5 := by omega
    have h2 : ¬ (5 < z) := by omega
    simp [Builtin.min_, Builtin.min2, go_sem, *]
theorem max_lit (z : Int) (h : 0 ≤ z) : ∀ ts t W, (Builtin.max_ ts t #[.int .i64 z, .int .i64 0]).run Tryd.prog W = .ok (.int .i64 z) W := fun ts t W => by
  by_cases e : z = 0
  · subst e; simp [Builtin.max_, Builtin.max2, go_sem]
  · have : 0 < z := by omega
    have h2 : ¬ (z < 0) := by omega
    simp [Builtin.max_, Builtin.max2, go_sem, *]
theorem in_lit (x : D.Tg) (z : Int) (b : Bool) (h : (decide (0 ≤ z ∧ z < 6) && D.inn (D.gr x) z.toNat) = b) (W : World) : Calls Tryd.prog 11 #[.agg (nc x), .int .i64 z] W fun e w' => e = .returned (.bool b) ∧ Below W.heap.size W w' := by
  have := in_any x z W
  rwa [h] at this
/-- What the law's first loop carries. -/
structure Cy (w wr : World) (x : D.Tg) (B : Nat) (A : Option Addr) (L g : Nat) (i0 i1 i2 i3 i4 i5 : Bool) : Prop where
  rd : rd wr ⟨w.heap.size, 0, none⟩ = some x
  blk : Blk wr B 33 #[.bool i0, .bool i1, .bool i2, .bool i3, .bool i4, .bool i5]
  row : Row wr A L (ins (D.cats g 6))
  env : Env wr
  fw : Fw w wr
theorem Cy.on {w wr w' : World} {x : D.Tg} {B : Nat} {A : Option Addr} {L g : Nat} {i0 i1 i2 i3 i4 i5 : Bool} (h : Cy w wr x B A L g i0 i1 i2 i3 i4 i5) (hb : Below wr.heap.size wr w') : Cy w w' x B A L g i0 i1 i2 i3 i4 i5 := ⟨rd_on h.rd hb, h.blk.on hb, h.row.on hb, h.env.on hb, h.fw.on hb⟩

set_option maxHeartbeats 16000000 in
theorem sets_all (x : D.Tg) (c : Int) (s : ByteArray) (w : World) (hs : s.size ≤ 9223372036854775807) (hE : Env w) : Calls Tryd.prog 4 #[.agg (nc x), .int .i64 c, .string s] w fun e w' => e = .returned (.bool true) ∧ Below w.heap.size w w' := by
  obtain ⟨m, hm1, hm2, hmin⟩ := min_run s.size 20 20 rfl
  obtain ⟨u, hu⟩ : ∃ u, s.extract 0 m = u := ⟨_, rfl⟩
  have f0 := rd_new w w.heap.size 25 x rfl
  have z0 := (Fw.self w).alloc (.cells (nc x) 25)
  have E0 := hE.on (below_alloc_ w (.cells (nc x) 25))
  have cG := fun W => lgroup_any x W
  have cS := fun W => set_any x W
  have hg := D.gr_le x
  have cR := fun W => rset_any (D.gr x) W hg
  rw [show (List.range 6).map (D.inn (D.gr x)) = [D.inn (D.gr x) 0, D.inn (D.gr x) 1, D.inn (D.gr x) 2, D.inn (D.gr x) 3, D.inn (D.gr x) 4, D.inn (D.gr x) 5] from rfl] at cR
  have cI := fun z b h W => in_lit x z b h W
  obtain ⟨g, hgg⟩ : ∃ g, D.gr x = g := ⟨_, rfl⟩
  rw [hgg] at cG cS cR cI hg

  obtain ⟨i0, h0⟩ : ∃ b, D.inn g 0 = b := ⟨_, rfl⟩
  obtain ⟨i1, h1⟩ : ∃ b, D.inn g 1 = b := ⟨_, rfl⟩
  obtain ⟨i2, h2⟩ : ∃ b, D.inn g 2 = b := ⟨_, rfl⟩
  obtain ⟨i3, h3⟩ : ∃ b, D.inn g 3 = b := ⟨_, rfl⟩
  obtain ⟨i4, h4⟩ : ∃ b, D.inn g 4 = b := ⟨_, rfl⟩
  obtain ⟨i5, h5⟩ : ∃ b, D.inn g 5 = b := ⟨_, rfl⟩
  rw [h0, h1, h2, h3, h4, h5] at cR
  have CR := Lib.hid (fun W => (show Calls Tryd.prog 12 #[.int .i64 g] W fun e w' => e = .returned (.agg #[.bool i0, .bool i1, .bool i2, .bool i3, .bool i4, .bool i5]) ∧ Below W.heap.size W w' from cR W))
  have HI : Kept (D.inn g 0 = i0 ∧ D.inn g 1 = i1 ∧ D.inn g 2 = i2 ∧ D.inn g 3 = i3 ∧ D.inn g 4 = i4 ∧ D.inn g 5 = i5) := ⟨h0, h1, h2, h3, h4, h5⟩
  have HL : Kept ((D.cats g 6).length ≤ 6) := ⟨D.cats_len g 6⟩
  have CG := Lib.hid cG
  have CS := Lib.hid cS
  have CI := Lib.hid cI
  clear cG cS cR cI h0 h1 h2 h3 h4 h5 hgg hg
  go_enter Tryd.func4, Tryd.ntmps4
  go_wp2_with (first
    | (go_at_call 7; (with_reducible refine (CG.out _).mono ?_); rintro e w1 ⟨rfl, b1⟩; have f1 := rd_on f0 b1; have z1 := z0.on b1; have E1 := E0.on b1)
    | (go_at_call 12; (with_reducible refine (CR.out _).mono ?_); rintro e w2 ⟨rfl, b2⟩; have b2' := b2.alloc b2.size (.cells #[.bool i0, .bool i1, .bool i2, .bool i3, .bool i4, .bool i5] 33); have f2 := rd_on f1 b2'; have z2 := z1.on b2'; have E2 := E1.on b2'; have B2 := Blk.new w2 33 #[.bool i0, .bool i1, .bool i2, .bool i3, .bool i4, .bool i5])
    | (go_at_call 13; (with_reducible refine (CS.out _).mono ?_); rintro e w3 ⟨A, cp, rfl, ho, b3⟩; have f3 := rd_on f2 b3; have z3 := z2.on b3; have E3 := E2.on b3; have B3 := B2.on b3)
    | fail)
  try rw [hu]
  have K3 : Cy w w3 x w2.heap.size A (D.cats g 6).length g i0 i1 i2 i3 i4 i5 := ⟨f3, B3, ho.to_row, E3, z3⟩
  obtain ⟨L, hL⟩ : ∃ L, (D.cats g 6).length = L := ⟨_, rfl⟩
  rw [hL] at K3 HL ⊢
  have HLL := Lib.hid hL
  clear CG CR CS f0 z0 E0 f1 z1 E1 b1 b2 b2' f2 z2 E2 B2 b3 f3 z3 E3 B3 ho hL hmin
  go_loopw [9, 10] (fun a i wr => ∃ k : Nat, k ≤ 10 ∧ (k = 0 → i = .int .i64 (-2)) ∧ (k = 1 → i = .int .i64 (-1)) ∧ (k = 2 → i = .int .i64 0) ∧ (k = 3 → i = .int .i64 1) ∧ (k = 4 → i = .int .i64 2) ∧ (k = 5 → i = .int .i64 3) ∧ (k = 6 → i = .int .i64 4) ∧ (k = 7 → i = .int .i64 5) ∧ (k = 8 → i = .int .i64 6) ∧ (k = 9 → i = .int .i64 7) ∧ (k = 10 → i = .int .i64 8) ∧ a = .int .i64 ((D.cats g (min (k - 2) 6)).length : Nat) ∧ Cy w wr x w2.heap.size A L g i0 i1 i2 i3 i4 i5) (fun _ i _ => (8 - intOf i).toNat)
  case atStart => exact ⟨0, Nat.zero_le _, fun _ => rfl, fun h => by omega, fun h => by omega, fun h => by omega, fun h => by omega, fun h => by omega, fun h => by omega, fun h => by omega, fun h => by omega, fun h => by omega, fun h => by omega, rfl, K3⟩
  case round =>
    obtain ⟨k, hk, e0, e1, e2, e3, e4, e5, e6, e7, e8, e9, e10, rfl, K⟩ := hrel
    clear K3
    by_cases hlt : k < 10
    · obtain rfl | rfl | rfl | rfl | rfl | rfl | rfl | rfl | rfl | rfl : k = 0 ∨ k = 1 ∨ k = 2 ∨ k = 3 ∨ k = 4 ∨ k = 5 ∨ k = 6 ∨ k = 7 ∨ k = 8 ∨ k = 9 := by omega
      · obtain rfl := e0 rfl
        clear e0 e1 e2 e3 e4 e5 e6 e7 e8 e9 e10 hlt
        have rdx := K.rd
        have sx := rd_lt rdx
        have cW := fun W hE => word_any (-2) W hE
        have cV := fun W => rword_any (-2) W
        obtain ⟨S, hS⟩ : ∃ S, D.sb (D.wrd (-2)) = S := ⟨_, rfl⟩
        rw [hS] at cW cV
        have CW := Lib.hid cW
        have CV := Lib.hid cV
        clear cW cV hS
        have CIz := Lib.hid (fun W => CI.out (-2) false rfl W)
        clear CI
        go_wp2_with (first
          | (go_at_call 11; (with_reducible refine (CIz.out _).mono ?_); rintro e w4 ⟨rfl, b4⟩; have K4 := K.on b4)
          | (go_at_call 14; (with_reducible refine (CW.out _ K4.env).mono ?_); rintro e w5 ⟨rfl, rfl⟩)
          | (go_at_call 15; (with_reducible refine (CV.out _).mono ?_); rintro e w6 ⟨rfl, b6⟩; have K6 := K4.on b6))
        go_roundw
        case rel => exact ⟨1, by omega, fun h => by omega, fun _ => rfl, fun h => by omega, fun h => by omega, fun h => by omega, fun h => by omega, fun h => by omega, fun h => by omega, fun h => by omega, fun h => by omega, fun h => by omega, rfl, K6⟩
        case measure => simp [intOf]
      · obtain rfl := e1 rfl
        clear e0 e1 e2 e3 e4 e5 e6 e7 e8 e9 e10 hlt
        have rdx := K.rd
        have sx := rd_lt rdx
        have cW := fun W hE => word_any (-1) W hE
        have cV := fun W => rword_any (-1) W
        obtain ⟨S, hS⟩ : ∃ S, D.sb (D.wrd (-1)) = S := ⟨_, rfl⟩
        rw [hS] at cW cV
        have CW := Lib.hid cW
        have CV := Lib.hid cV
        clear cW cV hS
        have CIz := Lib.hid (fun W => CI.out (-1) false rfl W)
        clear CI
        go_wp2_with (first
          | (go_at_call 11; (with_reducible refine (CIz.out _).mono ?_); rintro e w4 ⟨rfl, b4⟩; have K4 := K.on b4)
          | (go_at_call 14; (with_reducible refine (CW.out _ K4.env).mono ?_); rintro e w5 ⟨rfl, rfl⟩)
          | (go_at_call 15; (with_reducible refine (CV.out _).mono ?_); rintro e w6 ⟨rfl, b6⟩; have K6 := K4.on b6))
        go_roundw
        case rel => exact ⟨2, by omega, fun h => by omega, fun h => by omega, fun _ => rfl, fun h => by omega, fun h => by omega, fun h => by omega, fun h => by omega, fun h => by omega, fun h => by omega, fun h => by omega, fun h => by omega, rfl, K6⟩
        case measure => simp [intOf]
      · obtain rfl := e2 rfl
        clear e0 e1 e2 e3 e4 e5 e6 e7 e8 e9 e10 hlt
        have rdx := K.rd
        have sx := rd_lt rdx
        have cW := fun W hE => word_any 0 W hE
        have cV := fun W => rword_any 0 W
        obtain ⟨S, hS⟩ : ∃ S, D.sb (D.wrd 0) = S := ⟨_, rfl⟩
        rw [hS] at cW cV
        have CW := Lib.hid cW
        have CV := Lib.hid cV
        clear cW cV hS
        have hz : D.inn g 0 = i0 := HI.out.1
        have CIz := Lib.hid (fun W => CI.out 0 i0 (by show D.inn g 0 = i0; exact hz) W)
        have cell : wr.cell? ⟨w2.heap.size, 0, none⟩ = some (.bool i0) := K.blk.c 0
        have hmn := min_lit 0 (by omega)
        have hmx := max_lit 0 (by omega)
        clear CI
        cases i0
        · have hat : Kept ((D.cats g 1).length = (D.cats g 0).length) := ⟨by rw [D.cats_no hz]⟩
          clear hz
          go_wp2_with (first
            | (go_at_call 11; (with_reducible refine (CIz.out _).mono ?_); rintro e w4 ⟨rfl, b4⟩; have K4 := K.on b4)
            | (go_at_call 14; (with_reducible refine (CW.out _ K4.env).mono ?_); rintro e w5 ⟨rfl, rfl⟩)
            | (go_at_call 15; (with_reducible refine (CV.out _).mono ?_); rintro e w6 ⟨rfl, b6⟩; have K6 := K4.on b6))
          go_roundw
          case rel => exact ⟨3, by omega, fun h => by omega, fun h => by omega, fun h => by omega, fun _ => rfl, fun h => by omega, fun h => by omega, fun h => by omega, fun h => by omega, fun h => by omega, fun h => by omega, fun h => by omega, by show _ = Value.int .i64 ((D.cats g 1).length : Nat); rw [hat.out], K6⟩
          case measure => simp [intOf]
        · have hat : Kept ((D.cats g 1).length = (D.cats g 0).length + 1) := ⟨D.cats_yes hz⟩
          have hc := D.cats_at (by omega) hz
          have hlt : (D.cats g 0).length < L := by rw [← HLL.out]; exact (List.getElem?_eq_some_iff.1 hc).1
          have hL6 := HL.out
          rw [show min (2 - 2) 6 = 0 from rfl]
          obtain ⟨a, ha⟩ : ∃ a, (D.cats g 0).length = a := ⟨_, rfl⟩
          rw [ha] at hat hc hlt ⊢
          have hI : (a : Int) < L := by omega
          have hA : a ≤ 6 := by omega
          obtain ⟨ad, rfl, q0⟩ := K.row.cell (ins_at hc)
          have la : ad.block < wr.heap.size := by
            have := World.block_lt_of_cell? wr _ q0
            rwa [block_of_add] at this
          clear hz hc ha
          go_wp2_with (first
            | (go_at_call 11; (with_reducible refine (CIz.out _).mono ?_); rintro e w4 ⟨rfl, b4⟩; have K4 := K.on b4)
            | (go_at_call 14; (with_reducible refine (CW.out _ K4.env).mono ?_); rintro e w5 ⟨rfl, rfl⟩)
            | (go_at_call 15; (with_reducible refine (CV.out _).mono ?_); rintro e w6 ⟨rfl, b6⟩; have K6 := K4.on b6; have q6 := (b6.cell (p := ad.add a) (by rw [block_of_add]; exact Nat.lt_of_lt_of_le la b4.size)).trans ((b4.cell (p := ad.add a) (by rw [block_of_add]; exact la)).trans q0)))
          go_roundw
          case rel => exact ⟨3, by omega, fun h => by omega, fun h => by omega, fun h => by omega, fun _ => rfl, fun h => by omega, fun h => by omega, fun h => by omega, fun h => by omega, fun h => by omega, fun h => by omega, fun h => by omega, by show _ = Value.int .i64 ((D.cats g 1).length : Nat); rw [hat.out]; go_num, K6⟩
          case measure => simp [intOf]
      · obtain rfl := e3 rfl
        clear e0 e1 e2 e3 e4 e5 e6 e7 e8 e9 e10 hlt
        have rdx := K.rd
        have sx := rd_lt rdx
        have cW := fun W hE => word_any 1 W hE
        have cV := fun W => rword_any 1 W
        obtain ⟨S, hS⟩ : ∃ S, D.sb (D.wrd 1) = S := ⟨_, rfl⟩
        rw [hS] at cW cV
        have CW := Lib.hid cW
        have CV := Lib.hid cV
        clear cW cV hS
        have hz : D.inn g 1 = i1 := HI.out.2.1
        have CIz := Lib.hid (fun W => CI.out 1 i1 (by show D.inn g 1 = i1; exact hz) W)
        have cell : wr.cell? ⟨w2.heap.size, 1, none⟩ = some (.bool i1) := K.blk.c 1
        have hmn := min_lit 1 (by omega)
        have hmx := max_lit 1 (by omega)
        clear CI
        cases i1
        · have hat : Kept ((D.cats g 2).length = (D.cats g 1).length) := ⟨by rw [D.cats_no hz]⟩
          clear hz
          go_wp2_with (first
            | (go_at_call 11; (with_reducible refine (CIz.out _).mono ?_); rintro e w4 ⟨rfl, b4⟩; have K4 := K.on b4)
            | (go_at_call 14; (with_reducible refine (CW.out _ K4.env).mono ?_); rintro e w5 ⟨rfl, rfl⟩)
            | (go_at_call 15; (with_reducible refine (CV.out _).mono ?_); rintro e w6 ⟨rfl, b6⟩; have K6 := K4.on b6))
          go_roundw
          case rel => exact ⟨4, by omega, fun h => by omega, fun h => by omega, fun h => by omega, fun h => by omega, fun _ => rfl, fun h => by omega, fun h => by omega, fun h => by omega, fun h => by omega, fun h => by omega, fun h => by omega, by show _ = Value.int .i64 ((D.cats g 2).length : Nat); rw [hat.out], K6⟩
          case measure => simp [intOf]
        · have hat : Kept ((D.cats g 2).length = (D.cats g 1).length + 1) := ⟨D.cats_yes hz⟩
          have hc := D.cats_at (by omega) hz
          have hlt : (D.cats g 1).length < L := by rw [← HLL.out]; exact (List.getElem?_eq_some_iff.1 hc).1
          have hL6 := HL.out
          rw [show min (3 - 2) 6 = 1 from rfl]
          obtain ⟨a, ha⟩ : ∃ a, (D.cats g 1).length = a := ⟨_, rfl⟩
          rw [ha] at hat hc hlt ⊢
          have hI : (a : Int) < L := by omega
          have hA : a ≤ 6 := by omega
          obtain ⟨ad, rfl, q0⟩ := K.row.cell (ins_at hc)
          have la : ad.block < wr.heap.size := by
            have := World.block_lt_of_cell? wr _ q0
            rwa [block_of_add] at this
          clear hz hc ha
          go_wp2_with (first
            | (go_at_call 11; (with_reducible refine (CIz.out _).mono ?_); rintro e w4 ⟨rfl, b4⟩; have K4 := K.on b4)
            | (go_at_call 14; (with_reducible refine (CW.out _ K4.env).mono ?_); rintro e w5 ⟨rfl, rfl⟩)
            | (go_at_call 15; (with_reducible refine (CV.out _).mono ?_); rintro e w6 ⟨rfl, b6⟩; have K6 := K4.on b6; have q6 := (b6.cell (p := ad.add a) (by rw [block_of_add]; exact Nat.lt_of_lt_of_le la b4.size)).trans ((b4.cell (p := ad.add a) (by rw [block_of_add]; exact la)).trans q0)))
          go_roundw
          case rel => exact ⟨4, by omega, fun h => by omega, fun h => by omega, fun h => by omega, fun h => by omega, fun _ => rfl, fun h => by omega, fun h => by omega, fun h => by omega, fun h => by omega, fun h => by omega, fun h => by omega, by show _ = Value.int .i64 ((D.cats g 2).length : Nat); rw [hat.out]; go_num, K6⟩
          case measure => simp [intOf]
      · obtain rfl := e4 rfl
        clear e0 e1 e2 e3 e4 e5 e6 e7 e8 e9 e10 hlt
        have rdx := K.rd
        have sx := rd_lt rdx
        have cW := fun W hE => word_any 2 W hE
        have cV := fun W => rword_any 2 W
        obtain ⟨S, hS⟩ : ∃ S, D.sb (D.wrd 2) = S := ⟨_, rfl⟩
        rw [hS] at cW cV
        have CW := Lib.hid cW
        have CV := Lib.hid cV
        clear cW cV hS
        have hz : D.inn g 2 = i2 := HI.out.2.2.1
        have CIz := Lib.hid (fun W => CI.out 2 i2 (by show D.inn g 2 = i2; exact hz) W)
        have cell : wr.cell? ⟨w2.heap.size, 2, none⟩ = some (.bool i2) := K.blk.c 2
        have hmn := min_lit 2 (by omega)
        have hmx := max_lit 2 (by omega)
        clear CI
        cases i2
        · have hat : Kept ((D.cats g 3).length = (D.cats g 2).length) := ⟨by rw [D.cats_no hz]⟩
          clear hz
          go_wp2_with (first
            | (go_at_call 11; (with_reducible refine (CIz.out _).mono ?_); rintro e w4 ⟨rfl, b4⟩; have K4 := K.on b4)
            | (go_at_call 14; (with_reducible refine (CW.out _ K4.env).mono ?_); rintro e w5 ⟨rfl, rfl⟩)
            | (go_at_call 15; (with_reducible refine (CV.out _).mono ?_); rintro e w6 ⟨rfl, b6⟩; have K6 := K4.on b6))
          go_roundw
          case rel => exact ⟨5, by omega, fun h => by omega, fun h => by omega, fun h => by omega, fun h => by omega, fun h => by omega, fun _ => rfl, fun h => by omega, fun h => by omega, fun h => by omega, fun h => by omega, fun h => by omega, by show _ = Value.int .i64 ((D.cats g 3).length : Nat); rw [hat.out], K6⟩
          case measure => simp [intOf]
        · have hat : Kept ((D.cats g 3).length = (D.cats g 2).length + 1) := ⟨D.cats_yes hz⟩
          have hc := D.cats_at (by omega) hz
          have hlt : (D.cats g 2).length < L := by rw [← HLL.out]; exact (List.getElem?_eq_some_iff.1 hc).1
          have hL6 := HL.out
          rw [show min (4 - 2) 6 = 2 from rfl]
          obtain ⟨a, ha⟩ : ∃ a, (D.cats g 2).length = a := ⟨_, rfl⟩
          rw [ha] at hat hc hlt ⊢
          have hI : (a : Int) < L := by omega
          have hA : a ≤ 6 := by omega
          obtain ⟨ad, rfl, q0⟩ := K.row.cell (ins_at hc)
          have la : ad.block < wr.heap.size := by
            have := World.block_lt_of_cell? wr _ q0
            rwa [block_of_add] at this
          clear hz hc ha
          go_wp2_with (first
            | (go_at_call 11; (with_reducible refine (CIz.out _).mono ?_); rintro e w4 ⟨rfl, b4⟩; have K4 := K.on b4)
            | (go_at_call 14; (with_reducible refine (CW.out _ K4.env).mono ?_); rintro e w5 ⟨rfl, rfl⟩)
            | (go_at_call 15; (with_reducible refine (CV.out _).mono ?_); rintro e w6 ⟨rfl, b6⟩; have K6 := K4.on b6; have q6 := (b6.cell (p := ad.add a) (by rw [block_of_add]; exact Nat.lt_of_lt_of_le la b4.size)).trans ((b4.cell (p := ad.add a) (by rw [block_of_add]; exact la)).trans q0)))
          go_roundw
          case rel => exact ⟨5, by omega, fun h => by omega, fun h => by omega, fun h => by omega, fun h => by omega, fun h => by omega, fun _ => rfl, fun h => by omega, fun h => by omega, fun h => by omega, fun h => by omega, fun h => by omega, by show _ = Value.int .i64 ((D.cats g 3).length : Nat); rw [hat.out]; go_num, K6⟩
          case measure => simp [intOf]
      · obtain rfl := e5 rfl
        clear e0 e1 e2 e3 e4 e5 e6 e7 e8 e9 e10 hlt
        have rdx := K.rd
        have sx := rd_lt rdx
        have cW := fun W hE => word_any 3 W hE
        have cV := fun W => rword_any 3 W
        obtain ⟨S, hS⟩ : ∃ S, D.sb (D.wrd 3) = S := ⟨_, rfl⟩
        rw [hS] at cW cV
        have CW := Lib.hid cW
        have CV := Lib.hid cV
        clear cW cV hS
        have hz : D.inn g 3 = i3 := HI.out.2.2.2.1
        have CIz := Lib.hid (fun W => CI.out 3 i3 (by show D.inn g 3 = i3; exact hz) W)
        have cell : wr.cell? ⟨w2.heap.size, 3, none⟩ = some (.bool i3) := K.blk.c 3
        have hmn := min_lit 3 (by omega)
        have hmx := max_lit 3 (by omega)
        clear CI
        cases i3
        · have hat : Kept ((D.cats g 4).length = (D.cats g 3).length) := ⟨by rw [D.cats_no hz]⟩
          clear hz
          go_wp2_with (first
            | (go_at_call 11; (with_reducible refine (CIz.out _).mono ?_); rintro e w4 ⟨rfl, b4⟩; have K4 := K.on b4)
            | (go_at_call 14; (with_reducible refine (CW.out _ K4.env).mono ?_); rintro e w5 ⟨rfl, rfl⟩)
            | (go_at_call 15; (with_reducible refine (CV.out _).mono ?_); rintro e w6 ⟨rfl, b6⟩; have K6 := K4.on b6))
          go_roundw
          case rel => exact ⟨6, by omega, fun h => by omega, fun h => by omega, fun h => by omega, fun h => by omega, fun h => by omega, fun h => by omega, fun _ => rfl, fun h => by omega, fun h => by omega, fun h => by omega, fun h => by omega, by show _ = Value.int .i64 ((D.cats g 4).length : Nat); rw [hat.out], K6⟩
          case measure => simp [intOf]
        · have hat : Kept ((D.cats g 4).length = (D.cats g 3).length + 1) := ⟨D.cats_yes hz⟩
          have hc := D.cats_at (by omega) hz
          have hlt : (D.cats g 3).length < L := by rw [← HLL.out]; exact (List.getElem?_eq_some_iff.1 hc).1
          have hL6 := HL.out
          rw [show min (5 - 2) 6 = 3 from rfl]
          obtain ⟨a, ha⟩ : ∃ a, (D.cats g 3).length = a := ⟨_, rfl⟩
          rw [ha] at hat hc hlt ⊢
          have hI : (a : Int) < L := by omega
          have hA : a ≤ 6 := by omega
          obtain ⟨ad, rfl, q0⟩ := K.row.cell (ins_at hc)
          have la : ad.block < wr.heap.size := by
            have := World.block_lt_of_cell? wr _ q0
            rwa [block_of_add] at this
          clear hz hc ha
          go_wp2_with (first
            | (go_at_call 11; (with_reducible refine (CIz.out _).mono ?_); rintro e w4 ⟨rfl, b4⟩; have K4 := K.on b4)
            | (go_at_call 14; (with_reducible refine (CW.out _ K4.env).mono ?_); rintro e w5 ⟨rfl, rfl⟩)
            | (go_at_call 15; (with_reducible refine (CV.out _).mono ?_); rintro e w6 ⟨rfl, b6⟩; have K6 := K4.on b6; have q6 := (b6.cell (p := ad.add a) (by rw [block_of_add]; exact Nat.lt_of_lt_of_le la b4.size)).trans ((b4.cell (p := ad.add a) (by rw [block_of_add]; exact la)).trans q0)))
          go_roundw
          case rel => exact ⟨6, by omega, fun h => by omega, fun h => by omega, fun h => by omega, fun h => by omega, fun h => by omega, fun h => by omega, fun _ => rfl, fun h => by omega, fun h => by omega, fun h => by omega, fun h => by omega, by show _ = Value.int .i64 ((D.cats g 4).length : Nat); rw [hat.out]; go_num, K6⟩
          case measure => simp [intOf]
      · obtain rfl := e6 rfl
        clear e0 e1 e2 e3 e4 e5 e6 e7 e8 e9 e10 hlt
        have rdx := K.rd
        have sx := rd_lt rdx
        have cW := fun W hE => word_any 4 W hE
        have cV := fun W => rword_any 4 W
        obtain ⟨S, hS⟩ : ∃ S, D.sb (D.wrd 4) = S := ⟨_, rfl⟩
        rw [hS] at cW cV
        have CW := Lib.hid cW
        have CV := Lib.hid cV
        clear cW cV hS
        have hz : D.inn g 4 = i4 := HI.out.2.2.2.2.1
        have CIz := Lib.hid (fun W => CI.out 4 i4 (by show D.inn g 4 = i4; exact hz) W)
        have cell : wr.cell? ⟨w2.heap.size, 4, none⟩ = some (.bool i4) := K.blk.c 4
        have hmn := min_lit 4 (by omega)
        have hmx := max_lit 4 (by omega)
        clear CI
        cases i4
        · have hat : Kept ((D.cats g 5).length = (D.cats g 4).length) := ⟨by rw [D.cats_no hz]⟩
          clear hz
          go_wp2_with (first
            | (go_at_call 11; (with_reducible refine (CIz.out _).mono ?_); rintro e w4 ⟨rfl, b4⟩; have K4 := K.on b4)
            | (go_at_call 14; (with_reducible refine (CW.out _ K4.env).mono ?_); rintro e w5 ⟨rfl, rfl⟩)
            | (go_at_call 15; (with_reducible refine (CV.out _).mono ?_); rintro e w6 ⟨rfl, b6⟩; have K6 := K4.on b6))
          go_roundw
          case rel => exact ⟨7, by omega, fun h => by omega, fun h => by omega, fun h => by omega, fun h => by omega, fun h => by omega, fun h => by omega, fun h => by omega, fun _ => rfl, fun h => by omega, fun h => by omega, fun h => by omega, by show _ = Value.int .i64 ((D.cats g 5).length : Nat); rw [hat.out], K6⟩
          case measure => simp [intOf]
        · have hat : Kept ((D.cats g 5).length = (D.cats g 4).length + 1) := ⟨D.cats_yes hz⟩
          have hc := D.cats_at (by omega) hz
          have hlt : (D.cats g 4).length < L := by rw [← HLL.out]; exact (List.getElem?_eq_some_iff.1 hc).1
          have hL6 := HL.out
          rw [show min (6 - 2) 6 = 4 from rfl]
          obtain ⟨a, ha⟩ : ∃ a, (D.cats g 4).length = a := ⟨_, rfl⟩
          rw [ha] at hat hc hlt ⊢
          have hI : (a : Int) < L := by omega
          have hA : a ≤ 6 := by omega
          obtain ⟨ad, rfl, q0⟩ := K.row.cell (ins_at hc)
          have la : ad.block < wr.heap.size := by
            have := World.block_lt_of_cell? wr _ q0
            rwa [block_of_add] at this
          clear hz hc ha
          go_wp2_with (first
            | (go_at_call 11; (with_reducible refine (CIz.out _).mono ?_); rintro e w4 ⟨rfl, b4⟩; have K4 := K.on b4)
            | (go_at_call 14; (with_reducible refine (CW.out _ K4.env).mono ?_); rintro e w5 ⟨rfl, rfl⟩)
            | (go_at_call 15; (with_reducible refine (CV.out _).mono ?_); rintro e w6 ⟨rfl, b6⟩; have K6 := K4.on b6; have q6 := (b6.cell (p := ad.add a) (by rw [block_of_add]; exact Nat.lt_of_lt_of_le la b4.size)).trans ((b4.cell (p := ad.add a) (by rw [block_of_add]; exact la)).trans q0)))
          go_roundw
          case rel => exact ⟨7, by omega, fun h => by omega, fun h => by omega, fun h => by omega, fun h => by omega, fun h => by omega, fun h => by omega, fun h => by omega, fun _ => rfl, fun h => by omega, fun h => by omega, fun h => by omega, by show _ = Value.int .i64 ((D.cats g 5).length : Nat); rw [hat.out]; go_num, K6⟩
          case measure => simp [intOf]
      · obtain rfl := e7 rfl
        clear e0 e1 e2 e3 e4 e5 e6 e7 e8 e9 e10 hlt
        have rdx := K.rd
        have sx := rd_lt rdx
        have cW := fun W hE => word_any 5 W hE
        have cV := fun W => rword_any 5 W
        obtain ⟨S, hS⟩ : ∃ S, D.sb (D.wrd 5) = S := ⟨_, rfl⟩
        rw [hS] at cW cV
        have CW := Lib.hid cW
        have CV := Lib.hid cV
        clear cW cV hS
        have hz : D.inn g 5 = i5 := HI.out.2.2.2.2.2
        have CIz := Lib.hid (fun W => CI.out 5 i5 (by show D.inn g 5 = i5; exact hz) W)
        have cell : wr.cell? ⟨w2.heap.size, 5, none⟩ = some (.bool i5) := K.blk.c 5
        have hmn := min_lit 5 (by omega)
        have hmx := max_lit 5 (by omega)
        clear CI
        cases i5
        · have hat : Kept ((D.cats g 6).length = (D.cats g 5).length) := ⟨by rw [D.cats_no hz]⟩
          clear hz
          go_wp2_with (first
            | (go_at_call 11; (with_reducible refine (CIz.out _).mono ?_); rintro e w4 ⟨rfl, b4⟩; have K4 := K.on b4)
            | (go_at_call 14; (with_reducible refine (CW.out _ K4.env).mono ?_); rintro e w5 ⟨rfl, rfl⟩)
            | (go_at_call 15; (with_reducible refine (CV.out _).mono ?_); rintro e w6 ⟨rfl, b6⟩; have K6 := K4.on b6))
          go_roundw
          case rel => exact ⟨8, by omega, fun h => by omega, fun h => by omega, fun h => by omega, fun h => by omega, fun h => by omega, fun h => by omega, fun h => by omega, fun h => by omega, fun _ => rfl, fun h => by omega, fun h => by omega, by show _ = Value.int .i64 ((D.cats g 6).length : Nat); rw [hat.out], K6⟩
          case measure => simp [intOf]
        · have hat : Kept ((D.cats g 6).length = (D.cats g 5).length + 1) := ⟨D.cats_yes hz⟩
          have hc := D.cats_at (by omega) hz
          have hlt : (D.cats g 5).length < L := by rw [← HLL.out]; exact (List.getElem?_eq_some_iff.1 hc).1
          have hL6 := HL.out
          rw [show min (7 - 2) 6 = 5 from rfl]
          obtain ⟨a, ha⟩ : ∃ a, (D.cats g 5).length = a := ⟨_, rfl⟩
          rw [ha] at hat hc hlt ⊢
          have hI : (a : Int) < L := by omega
          have hA : a ≤ 6 := by omega
          obtain ⟨ad, rfl, q0⟩ := K.row.cell (ins_at hc)
          have la : ad.block < wr.heap.size := by
            have := World.block_lt_of_cell? wr _ q0
            rwa [block_of_add] at this
          clear hz hc ha
          go_wp2_with (first
            | (go_at_call 11; (with_reducible refine (CIz.out _).mono ?_); rintro e w4 ⟨rfl, b4⟩; have K4 := K.on b4)
            | (go_at_call 14; (with_reducible refine (CW.out _ K4.env).mono ?_); rintro e w5 ⟨rfl, rfl⟩)
            | (go_at_call 15; (with_reducible refine (CV.out _).mono ?_); rintro e w6 ⟨rfl, b6⟩; have K6 := K4.on b6; have q6 := (b6.cell (p := ad.add a) (by rw [block_of_add]; exact Nat.lt_of_lt_of_le la b4.size)).trans ((b4.cell (p := ad.add a) (by rw [block_of_add]; exact la)).trans q0)))
          go_roundw
          case rel => exact ⟨8, by omega, fun h => by omega, fun h => by omega, fun h => by omega, fun h => by omega, fun h => by omega, fun h => by omega, fun h => by omega, fun h => by omega, fun _ => rfl, fun h => by omega, fun h => by omega, by show _ = Value.int .i64 ((D.cats g 6).length : Nat); rw [hat.out]; go_num, K6⟩
          case measure => simp [intOf]
      · obtain rfl := e8 rfl
        clear e0 e1 e2 e3 e4 e5 e6 e7 e8 e9 e10 hlt
        have rdx := K.rd
        have sx := rd_lt rdx
        have cW := fun W hE => word_any 6 W hE
        have cV := fun W => rword_any 6 W
        obtain ⟨S, hS⟩ : ∃ S, D.sb (D.wrd 6) = S := ⟨_, rfl⟩
        rw [hS] at cW cV
        have CW := Lib.hid cW
        have CV := Lib.hid cV
        clear cW cV hS
        have CIz := Lib.hid (fun W => CI.out 6 false rfl W)
        clear CI
        go_wp2_with (first
          | (go_at_call 11; (with_reducible refine (CIz.out _).mono ?_); rintro e w4 ⟨rfl, b4⟩; have K4 := K.on b4)
          | (go_at_call 14; (with_reducible refine (CW.out _ K4.env).mono ?_); rintro e w5 ⟨rfl, rfl⟩)
          | (go_at_call 15; (with_reducible refine (CV.out _).mono ?_); rintro e w6 ⟨rfl, b6⟩; have K6 := K4.on b6))
        go_roundw
        case rel => exact ⟨9, by omega, fun h => by omega, fun h => by omega, fun h => by omega, fun h => by omega, fun h => by omega, fun h => by omega, fun h => by omega, fun h => by omega, fun h => by omega, fun _ => rfl, fun h => by omega, rfl, K6⟩
        case measure => simp [intOf]
      · obtain rfl := e9 rfl
        clear e0 e1 e2 e3 e4 e5 e6 e7 e8 e9 e10 hlt
        have rdx := K.rd
        have sx := rd_lt rdx
        have cW := fun W hE => word_any 7 W hE
        have cV := fun W => rword_any 7 W
        obtain ⟨S, hS⟩ : ∃ S, D.sb (D.wrd 7) = S := ⟨_, rfl⟩
        rw [hS] at cW cV
        have CW := Lib.hid cW
        have CV := Lib.hid cV
        clear cW cV hS
        have CIz := Lib.hid (fun W => CI.out 7 false rfl W)
        clear CI
        go_wp2_with (first
          | (go_at_call 11; (with_reducible refine (CIz.out _).mono ?_); rintro e w4 ⟨rfl, b4⟩; have K4 := K.on b4)
          | (go_at_call 14; (with_reducible refine (CW.out _ K4.env).mono ?_); rintro e w5 ⟨rfl, rfl⟩)
          | (go_at_call 15; (with_reducible refine (CV.out _).mono ?_); rintro e w6 ⟨rfl, b6⟩; have K6 := K4.on b6))
        go_roundw
        case rel => exact ⟨10, by omega, fun h => by omega, fun h => by omega, fun h => by omega, fun h => by omega, fun h => by omega, fun h => by omega, fun h => by omega, fun h => by omega, fun h => by omega, fun h => by omega, fun _ => rfl, rfl, K6⟩
        case measure => simp [intOf]
    · obtain rfl : k = 10 := by omega
      obtain rfl := e10 rfl
      clear e0 e1 e2 e3 e4 e5 e6 e7 e8 e9 e10 hlt CI hk
      rw [show (D.cats g (min (10 - 2) 6)).length = L from HLL.out]
      have z9 := K.fw
      have E9 := K.env
      clear K HI HL
      obtain ⟨o, ho⟩ : ∃ o, D.rdw (D.ns u) = o := ⟨_, rfl⟩
      have t0 : (([122, 101, 114, 111] : List UInt8) == u.toList) = decide (o = some 0) := by rw [wtest _ _ u rfl, ← ho]; exact decide_eq_decide.2 (D.rdw_iff (k := 0) (by omega))
      have t1 : (([111, 110, 101] : List UInt8) == u.toList) = decide (o = some 1) := by rw [wtest _ _ u rfl, ← ho]; exact decide_eq_decide.2 (D.rdw_iff (k := 1) (by omega))
      have t2 : (([116, 119, 111] : List UInt8) == u.toList) = decide (o = some 2) := by rw [wtest _ _ u rfl, ← ho]; exact decide_eq_decide.2 (D.rdw_iff (k := 2) (by omega))
      have t3 : (([102, 101, 119] : List UInt8) == u.toList) = decide (o = some 3) := by rw [wtest _ _ u rfl, ← ho]; exact decide_eq_decide.2 (D.rdw_iff (k := 3) (by omega))
      have t4 : (([109, 97, 110, 121] : List UInt8) == u.toList) = decide (o = some 4) := by rw [wtest _ _ u rfl, ← ho]; exact decide_eq_decide.2 (D.rdw_iff (k := 4) (by omega))
      have t5 : (([111, 116, 104, 101, 114] : List UInt8) == u.toList) = decide (o = some 5) := by rw [wtest _ _ u rfl, ← ho]; exact decide_eq_decide.2 (D.rdw_iff (k := 5) (by omega))
      have HO : Kept (∀ j, o = some j → j < 6) := ⟨fun j h => D.rdw_lt (ho.trans h)⟩
      have cR := fun W hE => read_any u W hE
      rw [D.rda_o, ho] at cR
      have CRd := Lib.hid cR
      clear cR ho
      go_wp2_with fail
      go_loopw [12, 13, 14] (fun a f i wv => ∃ k : Nat, k ≤ 6 ∧ (k = 0 → i = .int .i64 0) ∧ (k = 1 → i = .int .i64 1) ∧ (k = 2 → i = .int .i64 2) ∧ (k = 3 → i = .int .i64 3) ∧ (k = 4 → i = .int .i64 4) ∧ (k = 5 → i = .int .i64 5) ∧ (k = 6 → i = .int .i64 6) ∧ a = .int .i64 (D.wk o k : Nat) ∧ f = .bool (D.fk o k) ∧ Env wv ∧ Fw w wv) (fun _ _ i _ => (6 - intOf i).toNat)
      case atStart => exact ⟨0, Nat.zero_le _, fun _ => rfl, fun h => by omega, fun h => by omega, fun h => by omega, fun h => by omega, fun h => by omega, fun h => by omega, by cases o <;> rfl, by cases o <;> rfl, E9, z9⟩
      case round =>
        obtain ⟨k, hk, e0, e1, e2, e3, e4, e5, e6, rfl, rfl, E, z⟩ := hrel
        clear E9 z9
        by_cases hlt : k < 6
        · obtain rfl | rfl | rfl | rfl | rfl | rfl : k = 0 ∨ k = 1 ∨ k = 2 ∨ k = 3 ∨ k = 4 ∨ k = 5 := by omega
          · obtain rfl := e0 rfl
            clear e0 e1 e2 e3 e4 e5 e6 hlt
            have CV := Lib.hid (fun W => (show Calls Tryd.prog 15 #[.int .i64 0] W fun e w' => e = .returned (.string ⟨#[122, 101, 114, 111]⟩) ∧ Below W.heap.size W w' from rword_any 0 W))
            have t := t0
            clear t0 t1 t2 t3 t4 t5
            by_cases ho : o = some 0
            · subst ho
              rw [decide_eq_true rfl] at t
              have hw := Lib.hid (D.wk_yes 0)
              go_wp2_with (go_at_call 15; (with_reducible refine (CV.out _).mono ?_); rintro e w7 ⟨rfl, b7⟩; have E7 := E.on b7; have z7 := z.on b7)
              go_roundw
              case rel => exact ⟨1, by omega, fun h => by omega, fun _ => rfl, fun h => by omega, fun h => by omega, fun h => by omega, fun h => by omega, fun h => by omega, by rw [hw.out.1]; rfl, by rw [hw.out.2], E7, z7⟩
              case measure => simp [intOf]
            · rw [decide_eq_false ho] at t
              have hw := Lib.hid (D.wk_no ho)
              clear ho
              go_wp2_with (go_at_call 15; (with_reducible refine (CV.out _).mono ?_); rintro e w7 ⟨rfl, b7⟩; have E7 := E.on b7; have z7 := z.on b7)
              go_roundw
              case rel => exact ⟨1, by omega, fun h => by omega, fun _ => rfl, fun h => by omega, fun h => by omega, fun h => by omega, fun h => by omega, fun h => by omega, by rw [hw.out.1], by rw [hw.out.2], E7, z7⟩
              case measure => simp [intOf]
          · obtain rfl := e1 rfl
            clear e0 e1 e2 e3 e4 e5 e6 hlt
            have CV := Lib.hid (fun W => (show Calls Tryd.prog 15 #[.int .i64 1] W fun e w' => e = .returned (.string ⟨#[111, 110, 101]⟩) ∧ Below W.heap.size W w' from rword_any 1 W))
            have t := t1
            clear t0 t1 t2 t3 t4 t5
            by_cases ho : o = some 1
            · subst ho
              rw [decide_eq_true rfl] at t
              have hw := Lib.hid (D.wk_yes 1)
              go_wp2_with (go_at_call 15; (with_reducible refine (CV.out _).mono ?_); rintro e w7 ⟨rfl, b7⟩; have E7 := E.on b7; have z7 := z.on b7)
              go_roundw
              case rel => exact ⟨2, by omega, fun h => by omega, fun h => by omega, fun _ => rfl, fun h => by omega, fun h => by omega, fun h => by omega, fun h => by omega, by rw [hw.out.1]; rfl, by rw [hw.out.2], E7, z7⟩
              case measure => simp [intOf]
            · rw [decide_eq_false ho] at t
              have hw := Lib.hid (D.wk_no ho)
              clear ho
              go_wp2_with (go_at_call 15; (with_reducible refine (CV.out _).mono ?_); rintro e w7 ⟨rfl, b7⟩; have E7 := E.on b7; have z7 := z.on b7)
              go_roundw
              case rel => exact ⟨2, by omega, fun h => by omega, fun h => by omega, fun _ => rfl, fun h => by omega, fun h => by omega, fun h => by omega, fun h => by omega, by rw [hw.out.1], by rw [hw.out.2], E7, z7⟩
              case measure => simp [intOf]
          · obtain rfl := e2 rfl
            clear e0 e1 e2 e3 e4 e5 e6 hlt
            have CV := Lib.hid (fun W => (show Calls Tryd.prog 15 #[.int .i64 2] W fun e w' => e = .returned (.string ⟨#[116, 119, 111]⟩) ∧ Below W.heap.size W w' from rword_any 2 W))
            have t := t2
            clear t0 t1 t2 t3 t4 t5
            by_cases ho : o = some 2
            · subst ho
              rw [decide_eq_true rfl] at t
              have hw := Lib.hid (D.wk_yes 2)
              go_wp2_with (go_at_call 15; (with_reducible refine (CV.out _).mono ?_); rintro e w7 ⟨rfl, b7⟩; have E7 := E.on b7; have z7 := z.on b7)
              go_roundw
              case rel => exact ⟨3, by omega, fun h => by omega, fun h => by omega, fun h => by omega, fun _ => rfl, fun h => by omega, fun h => by omega, fun h => by omega, by rw [hw.out.1]; rfl, by rw [hw.out.2], E7, z7⟩
              case measure => simp [intOf]
            · rw [decide_eq_false ho] at t
              have hw := Lib.hid (D.wk_no ho)
              clear ho
              go_wp2_with (go_at_call 15; (with_reducible refine (CV.out _).mono ?_); rintro e w7 ⟨rfl, b7⟩; have E7 := E.on b7; have z7 := z.on b7)
              go_roundw
              case rel => exact ⟨3, by omega, fun h => by omega, fun h => by omega, fun h => by omega, fun _ => rfl, fun h => by omega, fun h => by omega, fun h => by omega, by rw [hw.out.1], by rw [hw.out.2], E7, z7⟩
              case measure => simp [intOf]
          · obtain rfl := e3 rfl
            clear e0 e1 e2 e3 e4 e5 e6 hlt
            have CV := Lib.hid (fun W => (show Calls Tryd.prog 15 #[.int .i64 3] W fun e w' => e = .returned (.string ⟨#[102, 101, 119]⟩) ∧ Below W.heap.size W w' from rword_any 3 W))
            have t := t3
            clear t0 t1 t2 t3 t4 t5
            by_cases ho : o = some 3
            · subst ho
              rw [decide_eq_true rfl] at t
              have hw := Lib.hid (D.wk_yes 3)
              go_wp2_with (go_at_call 15; (with_reducible refine (CV.out _).mono ?_); rintro e w7 ⟨rfl, b7⟩; have E7 := E.on b7; have z7 := z.on b7)
              go_roundw
              case rel => exact ⟨4, by omega, fun h => by omega, fun h => by omega, fun h => by omega, fun h => by omega, fun _ => rfl, fun h => by omega, fun h => by omega, by rw [hw.out.1]; rfl, by rw [hw.out.2], E7, z7⟩
              case measure => simp [intOf]
            · rw [decide_eq_false ho] at t
              have hw := Lib.hid (D.wk_no ho)
              clear ho
              go_wp2_with (go_at_call 15; (with_reducible refine (CV.out _).mono ?_); rintro e w7 ⟨rfl, b7⟩; have E7 := E.on b7; have z7 := z.on b7)
              go_roundw
              case rel => exact ⟨4, by omega, fun h => by omega, fun h => by omega, fun h => by omega, fun h => by omega, fun _ => rfl, fun h => by omega, fun h => by omega, by rw [hw.out.1], by rw [hw.out.2], E7, z7⟩
              case measure => simp [intOf]
          · obtain rfl := e4 rfl
            clear e0 e1 e2 e3 e4 e5 e6 hlt
            have CV := Lib.hid (fun W => (show Calls Tryd.prog 15 #[.int .i64 4] W fun e w' => e = .returned (.string ⟨#[109, 97, 110, 121]⟩) ∧ Below W.heap.size W w' from rword_any 4 W))
            have t := t4
            clear t0 t1 t2 t3 t4 t5
            by_cases ho : o = some 4
            · subst ho
              rw [decide_eq_true rfl] at t
              have hw := Lib.hid (D.wk_yes 4)
              go_wp2_with (go_at_call 15; (with_reducible refine (CV.out _).mono ?_); rintro e w7 ⟨rfl, b7⟩; have E7 := E.on b7; have z7 := z.on b7)
              go_roundw
              case rel => exact ⟨5, by omega, fun h => by omega, fun h => by omega, fun h => by omega, fun h => by omega, fun h => by omega, fun _ => rfl, fun h => by omega, by rw [hw.out.1]; rfl, by rw [hw.out.2], E7, z7⟩
              case measure => simp [intOf]
            · rw [decide_eq_false ho] at t
              have hw := Lib.hid (D.wk_no ho)
              clear ho
              go_wp2_with (go_at_call 15; (with_reducible refine (CV.out _).mono ?_); rintro e w7 ⟨rfl, b7⟩; have E7 := E.on b7; have z7 := z.on b7)
              go_roundw
              case rel => exact ⟨5, by omega, fun h => by omega, fun h => by omega, fun h => by omega, fun h => by omega, fun h => by omega, fun _ => rfl, fun h => by omega, by rw [hw.out.1], by rw [hw.out.2], E7, z7⟩
              case measure => simp [intOf]
          · obtain rfl := e5 rfl
            clear e0 e1 e2 e3 e4 e5 e6 hlt
            have CV := Lib.hid (fun W => (show Calls Tryd.prog 15 #[.int .i64 5] W fun e w' => e = .returned (.string ⟨#[111, 116, 104, 101, 114]⟩) ∧ Below W.heap.size W w' from rword_any 5 W))
            have t := t5
            clear t0 t1 t2 t3 t4 t5
            by_cases ho : o = some 5
            · subst ho
              rw [decide_eq_true rfl] at t
              have hw := Lib.hid (D.wk_yes 5)
              go_wp2_with (go_at_call 15; (with_reducible refine (CV.out _).mono ?_); rintro e w7 ⟨rfl, b7⟩; have E7 := E.on b7; have z7 := z.on b7)
              go_roundw
              case rel => exact ⟨6, by omega, fun h => by omega, fun h => by omega, fun h => by omega, fun h => by omega, fun h => by omega, fun h => by omega, fun _ => rfl, by rw [hw.out.1]; rfl, by rw [hw.out.2], E7, z7⟩
              case measure => simp [intOf]
            · rw [decide_eq_false ho] at t
              have hw := Lib.hid (D.wk_no ho)
              clear ho
              go_wp2_with (go_at_call 15; (with_reducible refine (CV.out _).mono ?_); rintro e w7 ⟨rfl, b7⟩; have E7 := E.on b7; have z7 := z.on b7)
              go_roundw
              case rel => exact ⟨6, by omega, fun h => by omega, fun h => by omega, fun h => by omega, fun h => by omega, fun h => by omega, fun h => by omega, fun _ => rfl, by rw [hw.out.1], by rw [hw.out.2], E7, z7⟩
              case measure => simp [intOf]
        · obtain rfl : k = 6 := by omega
          obtain rfl := e6 rfl
          clear e0 e1 e2 e3 e4 e5 e6 hlt t0 t1 t2 t3 t4 t5 hk
          have cW := fun W hE => word_any c W hE
          have cV := fun W => rword_any c W
          obtain ⟨S, hS⟩ : ∃ S, D.sb (D.wrd c) = S := ⟨_, rfl⟩
          rw [hS] at cW cV
          have CW := Lib.hid cW
          have CV := Lib.hid cV
          clear cW cV hS
          cases o with
          | none =>
            have CQ := Lib.hid (fun W hE => (show Calls Tryd.prog 16 #[.string u] W fun e w' => e = .returned (.tuple #[.int .i64 0, .int .i64 15]) ∧ W = w' from CRd.out W hE))
            clear CRd
            rw [show D.wk none 6 = 0 from rfl, show D.fk none 6 = false from rfl]
            go_wp2_with (first
              | (go_at_call 16; (with_reducible refine (CQ.out _ E).mono ?_); rintro e w7 ⟨rfl, rfl⟩)
              | (go_at_call 10; (with_reducible refine (known_any _).mono ?_); rintro e w8 ⟨rfl, b8⟩; have z8 := z.on b8; have E8 := E.on b8)
              | (go_at_call 14; (with_reducible refine (CW.out _ E8).mono ?_); rintro e w9 ⟨rfl, rfl⟩)
              | (go_at_call 15; (with_reducible refine (CV.out _).mono ?_); rintro e wa ⟨rfl, ba⟩; have za := z8.on ba)
              | fail)
            go_ret
            exact ⟨by rfl, za.below⟩
          | some j =>
            have hj := D.wk_end (HO.out j rfl)
            have CQ := Lib.hid (fun W hE => (show Calls Tryd.prog 16 #[.string u] W fun e w' => e = .returned (.tuple #[.int .i64 (j : Nat), .int .i64 0]) ∧ W = w' from CRd.out W hE))
            clear CRd
            rw [hj.1, hj.2]
            clear hj
            go_wp2_with (first
              | (go_at_call 16; (with_reducible refine (CQ.out _ E).mono ?_); rintro e w7 ⟨rfl, rfl⟩)
              | (go_at_call 10; (with_reducible refine (known_any _).mono ?_); rintro e w8 ⟨rfl, b8⟩; have z8 := z.on b8; have E8 := E.on b8)
              | (go_at_call 14; (with_reducible refine (CW.out _ E8).mono ?_); rintro e w9 ⟨rfl, rfl⟩)
              | (go_at_call 15; (with_reducible refine (CV.out _).mono ?_); rintro e wa ⟨rfl, ba⟩; have za := z8.on ba)
              | fail)
            go_ret
            exact ⟨by rfl, za.below⟩
end Go.Proofs.YtpiajeonnhfanaaDoor
