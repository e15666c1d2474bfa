/-
  The law of tags' texts: its walk.
-/
import Derived.Test.YtgbnaammphilhaaDoorKno
import Derived.Test.YtgbnaammphilhaaDoorRpb
import Derived.Test.YtgbnaammphilhaaDoorTo
import Derived.Test.YtgbnaammphilhaaDoorRtx
set_option linter.unusedVariables false
set_option linter.unusedSimpArgs false
namespace Go.Proofs.YtgbnaammphilhaaDoor
open Go.RowKit
attribute [local go_sem ↓] Go.wp_at_zero Go.wp_at_succ ld_a ld_n st_a st_n eq_a eq_n ne_a ne_n bsl_n lv_a lv_n lp_3 lp_4
attribute [local go_sem] run_ld_a run_ld_n run_sw_a run_sw_n run_eq_a run_eq_n run_ne_a run_ne_n run_bsl1_n run_lv_a run_lv_n st_z ne_z eq_z rd_new rd_old rd_drew rd_drewN rd_set tn_new tn_old tn_drew tn_drewN setRow_alloc run_lp_3 run_lp_4 rd_ext cell_ext

theorem can_lt {p : D.Pt} (h : D.Can p) : (∀ b ∈ p.l, b < 256) ∧ (∀ b ∈ p.s, b < 256) ∧ (∀ b ∈ p.r, b < 256) :=
  ⟨D.ch_lt (D.can_ch h).1, D.ch_lt (D.can_ch h).2.1, D.ch_lt (D.can_ch h).2.2⟩
theorem can_sb {p : D.Pt} (h : D.Can p) : (⟨D.ns (D.sb p.l), D.ns (D.sb p.s), D.ns (D.sb p.r)⟩ : D.Pt) = p := by
  obtain ⟨h1, h2, h3⟩ := can_lt h
  rw [D.ns_sb h1, D.ns_sb h2, D.ns_sb h3]
theorem sb_size {l : List Nat} (h : l.length ≤ 4) : (D.sb l).size ≤ 100 := by rw [D.sb_len]; omega
theorem to_can {p : D.Pt} (h : D.Can p) (w : World) : Calls Tryd.prog 10 #[av p] w fun e w' => e = .returned (.agg (nc (D.tb p))) ∧ Below w.heap.size w w' := by
  obtain ⟨h1, h2, h3⟩ := D.can_len h
  have := to_any (D.sb p.l) (D.sb p.s) (D.sb p.r) w (sb_size (by omega)) (sb_size (by omega)) (sb_size (by omega))
  rw [can_sb h] at this
  exact this
theorem rtx_can {p : D.Pt} (h : D.Can p) (w : World) : Calls Tryd.prog 12 #[av p] w fun e w' => e = .returned (.string (D.sb (D.txt p))) ∧ Below w.heap.size w w' := by
  obtain ⟨h1, h2, h3⟩ := D.can_len h
  have := ref_text (D.sb p.l) (D.sb p.s) (D.sb p.r) w (sb_size (by omega)) (sb_size (by omega)) (sb_size (by omega))
  rw [can_sb h] at this
  exact this
theorem rby_can {p : D.Pt} (h : D.Can p) (w : World) : Calls Tryd.prog 23 #[av p] w fun e w' => e = .returned (.agg (nc (D.tb p))) ∧ Below w.heap.size w w' := by
  obtain ⟨h1, h2, h3⟩ := D.can_len h
  have := ref_bytes (D.sb p.l) (D.sb p.s) (D.sb p.r) w (sb_size (by omega)) (sb_size (by omega)) (sb_size (by omega))
  rw [can_sb h] at this
  exact this
theorem ext_size_le (u : ByteArray) (m : Nat) : (u.extract 0 m).size ≤ m := by simp [ByteArray.size_extract]; omega
set_option maxRecDepth 100000 in
set_option maxHeartbeats 1000000 in
theorem parses_all (s : ByteArray) (w : World) (hs : s.size ≤ 9223372036854775807) : Calls Tryd.prog 3 #[.string s] w fun e w' => e = .returned (.bool true) ∧ Below w.heap.size w w' := by
  obtain ⟨m, hm1, hm2, hmin⟩ := min_run s.size 30 30 rfl
  have hus := ext_size_le s m
  obtain ⟨u, hu⟩ : ∃ u, s.extract 0 m = u := ⟨_, rfl⟩
  rw [hu] at hus
  have z0 := from_self w
  have cK := Lib.hid known_any
  have cR := fun w => ref_parse u w (by omega)
  have cP := fun w => tag_parse u w (by omega)
  cases hp : D.parse (D.ns u) with
  | none =>
    rw [hp] at cR cP
    have cR := fun w : World => (show Calls Tryd.prog 7 #[.string u] w fun e w' => e = .returned (.tuple #[.agg #[.string ⟨#[]⟩, .string ⟨#[]⟩, .string ⟨#[]⟩], .bool false]) ∧ Below w.heap.size w w' from cR w)
    have cP := fun w : World => (show Calls Tryd.prog 8 #[.string u] w fun e w' => e = .returned (.tuple #[.agg (nc D.zero), .int .i64 14]) ∧ Below w.heap.size w w' from cP w)
    have CR := Lib.hid cR
    have CP := Lib.hid cP
    have hsm : sm D.zero D.zero = true := rfl
    clear cR cP hp
    go_enter Tryd.func3, Tryd.ntmps3
    go_wp2_with (first
      | (go_at_call 7; (with_reducible refine (CR.out _).mono ?_); rintro e w1 ⟨rfl, b1⟩; have z1 := z0.on b1)
      | (go_at_call 8; (with_reducible refine (CP.out _).mono ?_); rintro e w2 ⟨rfl, b2⟩; have z2 := (z1.alloc _).on b2; have f2 := rd_new w2 _ 29 D.zero rfl)
      | (go_at_call 9; (with_reducible refine (cK.out _).mono ?_); rintro e w3 ⟨rfl, b3⟩; have z3 := (z2.alloc _).on b3; have f3 := rd_on f2 b3))
    go_ret
    exact ⟨rfl, z3.below⟩
  | some p =>
    have hc := D.parse_can hp
    rw [hp] at cR cP
    have cR := fun w : World => (show Calls Tryd.prog 7 #[.string u] w fun e w' => e = .returned (.tuple #[.agg #[.string (D.sb p.l), .string (D.sb p.s), .string (D.sb p.r)], .bool true]) ∧ Below w.heap.size w w' from cR w)
    have cP := fun w : World => (show Calls Tryd.prog 8 #[.string u] w fun e w' => e = .returned (.tuple #[.agg (nc (D.tb p)), .int .i64 0]) ∧ Below w.heap.size w w' from cP w)
    have cO := to_can hc
    have cX := rtx_can hc
    have cT := text_any (D.tb p)
    have cI := right_any (D.tb p)
    rw [show D.right (D.tb p) = true by unfold D.right; rw [D.pt_tb hc]; rfl] at cI
    rw [D.tx_tb hc] at cT
    unfold av at cO cX
    obtain ⟨t, ht⟩ : ∃ t, D.sb (D.txt p) = t := ⟨_, rfl⟩
    obtain ⟨x, hx⟩ : ∃ x, D.tb p = x := ⟨_, rfl⟩
    obtain ⟨a, ha⟩ : ∃ a, D.sb p.l = a := ⟨_, rfl⟩
    obtain ⟨b, hb⟩ : ∃ b, D.sb p.s = b := ⟨_, rfl⟩
    obtain ⟨c, hc'⟩ : ∃ c, D.sb p.r = c := ⟨_, rfl⟩
    rw [ht] at cX cT
    rw [hx] at cP cO cT cI
    rw [ha, hb, hc'] at cR cO cX
    have CR := Lib.hid cR
    have CP := Lib.hid cP
    have CO := Lib.hid cO
    have CX := Lib.hid cX
    have CT := Lib.hid cT
    have CI := Lib.hid cI
    have hsm : sm x x = true := by simp [sm]
    clear cR cP cO cX cT cI hp hc ht hx ha hb hc'
    go_enter Tryd.func3, Tryd.ntmps3
    go_wp2_with (first
      | (go_at_call 7; (with_reducible refine (CR.out _).mono ?_); rintro e w1 ⟨rfl, b1⟩; have z1 := z0.on b1; have g1 := Blk.new w1 23 #[.string a, .string b, .string c])
      | (go_at_call 8; (with_reducible refine (CP.out _).mono ?_); rintro e w2 ⟨rfl, b2⟩; have z2 := (z1.alloc _).on b2; have f2 := rd_new w2 _ 29 x rfl; have g2 := (g1.on b2).alloc (.cells (nc x) 29)))
    have k0 := g2.c 0
    have k1 := g2.c 1
    have k2 := g2.c 2
    have s2 := g2.lt
    simp at k0 k1 k2 s2
    refine wp_region_ext (by kernel_rfl) (by kernel_rfl) ?_
    repeat (go_big_quiet_step ((first
      | (go_at_call 9; exact calls_ext (cK.out _))
      | (go_at_call 10; exact calls_ext (CO.out _))
      | (go_at_call 11; exact calls_ext (CT.out _))
      | (go_at_call 12; exact calls_ext (CX.out _))
      | (go_at_call 13; exact calls_ext (CI.out _)))))
    refine wpQuiet_nil ?_
    intro w5 hw5
    have b5 := ext_to hw5
    clear hw5
    have z5 := (z2.alloc (.cells (nc x) 29)).on b5
    go_wp2
    go_ret
    exact ⟨rfl, z5.below⟩
end Go.Proofs.YtgbnaammphilhaaDoor
