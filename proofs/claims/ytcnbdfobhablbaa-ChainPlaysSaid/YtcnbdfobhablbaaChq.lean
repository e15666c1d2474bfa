/-
  A chain of those that may be put.
-/
import Derived.Test.YtcnbdfobhablbaaChp
set_option linter.unusedVariables false
set_option linter.unusedSimpArgs false
set_option maxRecDepth 100000
namespace Go.Proofs.Ytcnbdfobhablbaa
open Go.RowKit
attribute [local go_sem ↓] Go.wp_at_zero Go.wp_at_succ ld_v lv_v st_v ne_v bd_v bs_v ld_w lv_w st_w ne_w bd_w bs_w ld_r ld_d lv_r lv_d st_r st_d ne_r eq_r ne_d bd_r bd_d
attribute [local go_sem] run_ldv run_lvv run_stv run_nev run_bdv_z run_bdv_d run_bdv_r run_bsv1 run_bsv0 run_ldw run_lvw run_stw run_new run_bdw_3 run_bsw1 run_bsw0 run_ldr run_ldd run_lvr run_lvd run_str run_std run_ner run_eqr run_ned run_bdr0 run_bdd0 run_bdr1 run_bdd1 run_bdd9 Shp.rd_new Shp.rd_old Shp.rd_drew Shp.rd_drewN Shp.rd_set Shp.tn_new Shp.tn_old Shp.tn_drew Shp.tn_drewN setRow_alloc vv_0 vv_1 wv_0 wv_1 run_fdv0 run_fdv1 run_stf Shp.rd_extk cell_ext
/-- Those of some versions that may be put, one by one. -/
def D.pl (vs : List D.Vn) : List D.Vn := vs.foldl (fun l v => (D.puts l [D.cutV v true]).1) []
theorem D.pl_snoc (vs : List D.Vn) (v : D.Vn) : D.pl (vs ++ [v]) = (D.puts (D.pl vs) [D.cutV v true]).1 := by simp [D.pl, List.foldl_append]
theorem D.puts_one (l : List D.Vn) (v : D.Vn) : (D.puts l [v]).1.length ≤ l.length + 1 := by
  by_cases h : D.per l v = 0
  · rw [D.puts_cons_ok h, D.puts]; simp
  · rw [D.puts_cons_bad h]; simp
theorem D.pl_len (vs : List D.Vn) : ∀ n, (D.pl (vs.take n)).length ≤ n
  | 0 => by simp [D.pl]
  | n + 1 => by
    by_cases h : n < vs.length
    · rw [List.take_add_one, List.getElem?_eq_getElem h]
      simp only [Option.toList_some]
      rw [D.pl_snoc]
      have := D.puts_one (D.pl (vs.take n)) (D.cutV vs[n] true)
      have := D.pl_len vs n
      omega
    · rw [List.take_of_length_le (by omega), ← List.take_of_length_le (l := vs) (i := n) (by omega)]
      have := D.pl_len vs n
      omega
set_option maxHeartbeats 8000000 in
theorem lput_any {w : World} {A : Option Addr} {n c : Nat} {vs : List D.Vn} (hr : Shp.Row vS w A n vs) (hw : ∀ v ∈ vs, v.wf ∧ v.r.t.size ≤ maxLen) (hn : n ≤ maxLen) :
    Calls Try.prog 19 #[.slice A n c] w fun e w' => e = .returned (.pointer (some ⟨w.heap.size, 0, none⟩)) ∧ (∃ (A' : Option Addr) (c' : Nat), Cn w.heap.size w' w.heap.size A' c' (D.pl (vs.take 20))) ∧ Below w.heap.size w w' := by
  have hlen : Kept (vs.length = n) := ⟨hr.len⟩
  have HW := Lib.hid hw
  have HR := Lib.hid hr
  have hnm : n ≤ 9223372036854775807 := by simp only [maxLen] at hn; omega
  clear hw hr hn
  obtain ⟨g, hg⟩ : ∃ g, w.heap.size = g := ⟨_, rfl⟩
  go_enter Try.func19, Try.ntmps19
  go_wp2_with fail
  have b0 := below_alloc_ w (.cells #[.slice none 0 0] 26)
  have B0 := Blk.new w 26 #[.slice none 0 0]
  obtain ⟨w0, hw0⟩ : ∃ w0, w.alloc (.cells #[.slice none 0 0] 26) = w0 := ⟨_, rfl⟩
  rw [hw0] at b0 B0
  rw [hg] at b0 B0
  have hs : ∀ W : World, Below g w W → g ≤ W.heap.size := fun W h => by have := h.size; omega
  have C0 : Cn g w0 g none 0 [] := ⟨B0, Ow.nil _ 11 (hs _ b0), Nat.le_refl _, D.Srt.nil, by simp, by simp⟩
  have HC0 := Lib.hid C0
  have HB0 := Lib.hid b0
  have HR : Hid (∀ W, Below g w W → Shp.Row vS W A n vs) := fun W h => HR.out.on (by rw [hg]; exact h)
  clear C0 b0 B0
  try rw [hw0]
  go_loopw [4] (fun x wx => ∃ (i : Nat) (A' : Option Addr) (c' : Nat) (l1 : List D.Vn), i ≤ 20 ∧ i ≤ n ∧ x = .int .i64 i ∧ Hid (Cn g wx g A' c' l1) ∧ Hid (Below g w wx) ∧ Kept (D.pl (vs.take i) = l1 ∧ l1.length ≤ i)) (fun x _ => n - (intOf x).toNat)
  case atStart => exact ⟨0, none, 0, [], by omega, Nat.zero_le _, rfl, HC0, HB0, ⟨rfl, by simp⟩⟩
  case round =>
    clear HC0 HB0
    obtain ⟨i, A', c', l1, hi20, hin, rfl, HC, HB, HL⟩ := hrel
    by_cases hlt : i < n
    · have j0 : (0 : Int) ≤ (i : Int) := by omega
      have j1 : (i : Int) < (n : Int) := by omega
      by_cases h20 : i < 20
      · have j2 : (i : Int) < 20 := by omega
        obtain ⟨v, hv⟩ : ∃ v, vs[i]? = some v := ⟨_, List.getElem?_eq_getElem (by have := hlen.out; omega)⟩
        obtain ⟨ad, hAe, hal, hrd⟩ := (HR.out wr HB.out).rd hv
        subst hAe
        have hrd : vS.rd wr (ad.add (i * 11)) = some v := hrd
        obtain ⟨hvw, hvz⟩ := HW.out v (List.mem_of_getElem? hv)
        have CU := Lib.hid (vcut_any v true wr (by simp only [maxLen] at hvz; omega))
        have HT : Kept (D.pl (vs.take (i + 1)) = (D.puts l1 [D.cutV v true]).1) := ⟨by rw [List.take_add_one, hv]; simp only [Option.toList_some]; rw [D.pl_snoc, HL.out.1]⟩
        have hcw := Lib.hid (D.cutV_wf hvw true)
        have hll := HL.out.2
        clear hv hvw hvz
        go_wp2_with (go_at_call 10; (with_reducible refine CU.out.mono ?_); rintro e w1 ⟨rfl, b1⟩)
        have b2 := below_alloc_ w1 (.cells (vS.v (D.cutV v true)) 32)
        have R2 : Shp.Row vS (w1.alloc (.cells (vS.v (D.cutV v true)) 32)) (some ⟨w1.heap.size, 0, none⟩) 1 [D.cutV v true] := Shp.row_new w1 32 _ [D.cutV v true] rfl _ (by simp [Shp.rcs, Shp.v])
        obtain ⟨g2, hg2⟩ : ∃ g2, w1.heap.size = g2 := ⟨_, rfl⟩
        obtain ⟨w2, hw2⟩ : ∃ w2, w1.alloc (.cells (vS.v (D.cutV v true)) 32) = w2 := ⟨_, rfl⟩
        rw [hw2] at b2 R2
        rw [hg2] at R2
        have C2 := (HC.out.on b1).on b2
        have hne : g2 ≠ g ∧ ¬ at_ A' g2 := ⟨by have := (HC.out.on b1).blk.lt; omega, fun h => by have := (ow_at (HC.out.on b1).own h).2.2; omega⟩
        have CP := Lib.hid (put_any (d := 1) C2 R2 (fun ad e _ => by injection e with e; subst e; exact hne) (fun u hu => by rw [List.mem_singleton.1 hu]; exact hcw.out) (by omega))
        have HB2 : Hid (Below g w w2) := by
          have h1 := below_up HB.out (hs _ HB.out) b1
          exact below_up h1 (hs _ h1) b2
        have HC2 := Lib.hid C2
        try rw [hw2]
        try rw [hg2]
        have HPL := Lib.hid (D.puts_one l1 (D.cutV v true))
        obtain ⟨q, hq⟩ : ∃ q, D.puts l1 [D.cutV v true] = q := ⟨_, rfl⟩
        rw [hq] at CP HT HPL
        clear b1 b2 R2 C2 hne hw2 hg2 hq
        with_reducible refine CP.out.mono ?_
        rintro e w3 ⟨rfl, A3, c3, hC3, hO3, -⟩
        have HC3 := Lib.hid hC3
        have HB3 : Hid (Below g w w3) := HB2.out.trans (hO3.below (hs _ HB2.out) (fun q hq => by
          rcases hq with rfl | hq
          · exact Nat.le_refl _
          · exact (ow_at HC2.out.own hq).2.1))
        clear hC3 hO3
        go_wp2
        go_roundw
        case rel => exact ⟨i + 1, A3, c3, q.1, by omega, by omega, by go_num, HC3, HB3, ⟨HT.out, by have := HPL.out; omega⟩⟩
        case measure => simp [intOf]; omega
      · have j2 : ¬ ((i : Int) < 20) := by omega
        obtain rfl : i = 20 := by omega
        go_wp2
        go_ret
        try rw [hg]
        refine ⟨rfl, ⟨A', c', ?_⟩, HB.out⟩
        rw [HL.out.1]
        exact HC.out
    · have hin' : i = n := by omega
      have ht : vs.take 20 = vs.take i := by rw [List.take_of_length_le (by have := hlen.out; omega), List.take_of_length_le (by have := hlen.out; omega)]
      have HT := Lib.hid ht
      clear ht
      go_wp2
      go_ret
      try rw [hg]
      refine ⟨rfl, ⟨A', c', ?_⟩, HB.out⟩
      rw [HT.out, HL.out.1]
      exact HC.out
end Go.Proofs.Ytcnbdfobhablbaa
