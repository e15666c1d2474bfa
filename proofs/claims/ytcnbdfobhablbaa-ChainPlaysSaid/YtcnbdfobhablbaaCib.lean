/-
  Of some versions at once those ahead of the first error are put: the law.
-/
import Derived.Test.YtcnbdfobhablbaaChq
set_option linter.unusedVariables false
set_option linter.unusedSimpArgs false
set_option maxRecDepth 100000
namespace Go.Proofs.Ytcnbdfobhablbaa
open Go.RowKit
attribute [local go_sem ↓] Go.wp_at_zero Go.wp_at_succ ld_v lv_v st_v ne_v bd_v bs_v ld_w lv_w st_w ne_w bd_w bs_w ld_r ld_d lv_r lv_d st_r st_d ne_r eq_r ne_d bd_r bd_d
attribute [local go_sem] run_ldv run_lvv run_stv run_nev run_bdv_z run_bdv_d run_bdv_r run_bsv1 run_bsv0 run_ldw run_lvw run_stw run_new run_bdw_3 run_bsw1 run_bsw0 run_ldr run_ldd run_lvr run_lvd run_str run_std run_ner run_eqr run_ned run_bdr0 run_bdd0 run_bdr1 run_bdd1 run_bdd9 Shp.rd_new Shp.rd_old Shp.rd_drew Shp.rd_drewN Shp.rd_set Shp.tn_new Shp.tn_old Shp.tn_drew Shp.tn_drewN setRow_alloc vv_0 vv_1 wv_0 wv_1 run_fdv0 run_fdv1 run_stf Shp.rd_extk cell_ext
theorem D.puts_stop : ∀ (xs : List D.Vn) (l : List D.Vn) (v : D.Vn), (D.puts l xs).2.2 ≠ 0 → D.puts l (xs ++ [v]) = D.puts l xs
  | [], l, v, h => absurd rfl h
  | x :: xs, l, v, h => by
    by_cases hp : D.per l x = 0
    · rw [D.puts_cons_ok hp] at h
      rw [List.cons_append, D.puts_cons_ok hp, D.puts_cons_ok hp, D.puts_stop xs (l ++ [x]) v h]
    · rw [List.cons_append, D.puts_cons_bad hp, D.puts_cons_bad hp]
theorem D.puts_more : ∀ (xs : List D.Vn) (l : List D.Vn) (v : D.Vn), (D.puts l xs).2.2 = 0 → D.puts l (xs ++ [v]) = (D.pt (D.puts l xs).1 v, (D.puts l xs).2.1 + (if D.per (D.puts l xs).1 v = 0 then 1 else 0), D.per (D.puts l xs).1 v)
  | [], l, v, h => by
    rw [List.nil_append]
    show D.puts l [v] = (D.pt l v, 0 + _, _)
    by_cases hp : D.per l v = 0
    · rw [D.puts_cons_ok hp, D.puts, D.pt_ok hp]
      simp [hp, D.puts]
    · rw [D.puts_cons_bad hp, D.pt_bad hp]
      simp [hp, D.puts]
  | x :: xs, l, v, h => by
    by_cases hp : D.per l x = 0
    · rw [D.puts_cons_ok hp] at h
      rw [List.cons_append, D.puts_cons_ok hp, D.puts_cons_ok hp, D.puts_more xs (l ++ [x]) v h]
      simp only [Prod.mk.injEq, true_and, and_true]
      omega
    · rw [D.puts_cons_bad hp] at h
      exact absurd h hp
theorem D.puts_le : ∀ (xs : List D.Vn) (l : List D.Vn), (D.puts l xs).1.length ≤ l.length + xs.length ∧ (D.puts l xs).2.1 ≤ xs.length
  | [], l => by simp [D.puts]
  | x :: xs, l => by
    by_cases hp : D.per l x = 0
    · rw [D.puts_cons_ok hp]
      have := D.puts_le xs (l ++ [x])
      simp at this ⊢
      omega
    · rw [D.puts_cons_bad hp]; simp
theorem D.puts_cnt : ∀ (xs : List D.Vn) (l : List D.Vn), (D.puts l xs).1.length = l.length + (D.puts l xs).2.1
  | [], l => by simp [D.puts]
  | x :: xs, l => by
    by_cases hp : D.per l x = 0
    · rw [D.puts_cons_ok hp]
      have := D.puts_cnt xs (l ++ [x])
      simp at this ⊢
      omega
    · rw [D.puts_cons_bad hp]; simp
theorem D.wgh_lt {v : D.Vn} : D.wgh v < 1000 := by
  unfold D.wgh
  split
  · split <;> omega
  · unfold D.chk
    split
    · omega
    · split
      · omega
      · split
        · rename_i h1 h2 h3
          have hm : D.amiss v.r < 1000 := by
            have hi : ∀ a b c, D.inn a b c < 1000 := fun a b c => by unfold D.inn; split <;> omega
            have hl : ∀ t, D.lng t < 1000 := fun t => by unfold D.lng; split <;> omega
            have hf : ∀ a b, a < 1000 → b < 1000 → D.fst2 a b < 1000 := fun a b h1 h2 => by unfold D.fst2; split <;> omega
            unfold D.amiss
            split <;> first | exact hi _ _ _ | (repeat' apply hf) <;> first | exact hi _ _ _ | exact hl _ | omega
          exact hm
        · split <;> omega
theorem D.per_lt (l : List D.Vn) (v : D.Vn) : D.per l v < 1000 := by
  unfold D.per
  split
  · exact D.wgh_lt
  · split <;> omega
/-- What is cut of some. -/
def D.cuts (vs : List D.Vn) : List D.Vn := vs.map fun v => D.cutV v false
theorem D.cuts_snoc (vs : List D.Vn) (v : D.Vn) : D.cuts (vs ++ [v]) = D.cuts vs ++ [D.cutV v false] := by simp [D.cuts]
theorem app_box {g i c5 : Nat} {w w1 w2 : World} {A5 : Option Addr} {xs : List D.Vn} {x : D.Vn} (hB : Below g w w1) (hg : g ≤ w1.heap.size) (O1 : Ow 32 11 g w1 A5 i c5 (vS.rcs xs)) (hg2 : ((w1.alloc (.cells (vS.v x) 32)).alloc (.cells (vS.v x) 32)).grownBy w2 (Value.slice A5 i c5).ownBlock) :
    vS.rd w2 ⟨w1.heap.size, 0, none⟩ = some x ∧ Below g w w2 ∧ (∀ {A4 : Option Addr} {n : Nat} {l : List D.Vn}, DR w1 A4 n l → DR w2 A4 n l) ∧ (∀ {c : Nat}, Cn g w1 g none c [] → Cn g w2 g none c []) := by
  have hlt1 : ∀ k, (Value.slice A5 i c5).ownBlock = some k → g ≤ k ∧ k < w1.heap.size := fun k hk => O1.lt k hk
  have k2 : Only (fun k => (Value.slice A5 i c5).ownBlock = some k) w1 w2 := (((Only.self _ w1).alloc (.cells (vS.v x) 32)).alloc (.cells (vS.v x) 32)).grown hg2 (fun k hk => .inl hk)
  refine ⟨(Shp.rd_to (hg2.block w1.heap.size (by simp; omega) (fun e => by have := hlt1 _ e.symm; omega))).trans (Shp.rd_on (Shp.rd_new _ _ _ _ rfl) (below_alloc_ _ _)), ?_, fun h => h.only k2 (fun k hk cs hcs => ?_), fun h => h.only k2 (fun hk => ?_) (fun k ⟨_, h, _⟩ => by cases h)⟩
  · exact ((hB.alloc hg (.cells (vS.v x) 32)).alloc (by simp; omega) (.cells (vS.v x) 32)).grown hg2 (by simp; omega) (fun k hk => (hlt1 k hk).1)
  · obtain ⟨cs2, h2⟩ := ow_block O1 (own_at hk)
    rw [h2] at hcs
    injection hcs with hcs
    injection hcs with _ h3
    exact absurd h3 (by decide)
  · obtain ⟨cs2, h2⟩ := ow_block O1 (own_at hk)
    have := h2.symm.trans h.blk.out
    injection this with this
    injection this with _ h3
    exact absurd h3 (by decide)
set_option maxHeartbeats 16000000 in
theorem law_many {w : World} {A : Option Addr} {n c : Nat} {vs : List D.Vn} (hr : Shp.Row vS w A n vs) (hw : ∀ v ∈ vs, v.wf ∧ v.r.t.size ≤ maxLen) (hn : n ≤ maxLen) :
    Calls Try.prog 4 #[.slice A n c] w fun e w' => e = .returned (.bool true) ∧ Below w.heap.size w w' := by
  have hlen : Kept (vs.length = n) := ⟨hr.len⟩
  have HW := Lib.hid hw
  have hnm : n ≤ 9223372036854775807 := by simp only [maxLen] at hn; omega
  obtain ⟨g, hg⟩ : ∃ g, w.heap.size = g := ⟨_, rfl⟩
  have b0 := below_alloc_ w (.cells #[.slice none 0 0] 26)
  have B0 := Blk.new w 26 #[.slice none 0 0]
  obtain ⟨w0, hw0⟩ : ∃ w0, w.alloc (.cells #[.slice none 0 0] 26) = w0 := ⟨_, rfl⟩
  rw [hw0] at b0 B0
  rw [hg] at b0 B0
  have hs : Hid (∀ W : World, Below g w W → g ≤ W.heap.size) := fun W h => by have := h.size; omega
  have HC0 : Hid (Cn g w0 g none 0 []) := ⟨B0, Ow.nil _ 11 (hs.out _ b0), Nat.le_refl _, D.Srt.nil, by simp, by simp⟩
  have HB0 := Lib.hid b0
  have HR : Hid (∀ W, Below g w W → Shp.Row vS W A n vs) := fun W h => hr.on (by rw [hg]; exact h)
  have CK := Lib.hid (fun W => known_any W)
  clear b0 B0 hr hw hn
  go_enter Try.func4, Try.ntmps4
  go_wp2_with fail
  try rw [hw0]
  go_loopw [4, 5, 6, 7, 8] (fun s4 s5 s6 s7 s8 wx => ∃ (i : Nat) (A4 A5 : Option Addr) (c4 c5 q e : Nat) (l1 : List D.Vn), i ≤ 20 ∧ i ≤ n ∧ s8 = .int .i64 i ∧ s4 = .slice A4 l1.length c4 ∧ s5 = .slice A5 i c5 ∧ s6 = .int .i64 q ∧ s7 = .int .i64 e ∧ q ≤ 20 ∧ e < 1000 ∧ l1.length ≤ 20 ∧
    Hid (Cn g wx g none 0 []) ∧ Hid (Below g w wx) ∧ Hid (DR wx A4 l1.length l1) ∧ Hid (Ow 32 11 g wx A5 i c5 (vS.rcs (D.cuts (vs.take i)))) ∧ Kept (D.puts [] (D.cuts (vs.take i)) = (l1, q, e))) (fun _ _ _ _ s8 _ => n - (intOf s8).toNat)
  case atStart => exact ⟨0, none, none, 0, 0, 0, 0, [], by omega, Nat.zero_le _, rfl, rfl, rfl, rfl, rfl, by omega, by omega, by simp, HC0, HB0, Lib.hid (DR.nil _ _), Lib.hid (Ow.nil _ 11 (hs.out _ HB0.out)), ⟨rfl⟩⟩
  case round =>
    clear HC0 HB0
    obtain ⟨i, A4, A5, c4, c5, q, e, l1, hi20, hin, rfl, rfl, rfl, rfl, rfl, hq20, he, hl20, HC, HB, HD, HO, HP⟩ := hrel
    by_cases hlt : i < n
    · have j0 : (0 : Int) ≤ (i : Int) := by omega
      have j1 : (i : Int) < (n : Int) := by omega
      by_cases h20 : i < 20
      · have j2 : (i : Int) < 20 := by omega
        obtain ⟨v, hv⟩ : ∃ v, vs[i]? = some v := ⟨_, List.getElem?_eq_getElem (by have := hlen.out; omega)⟩
        obtain ⟨ad, hAe, hal, hrd⟩ := (HR.out wr HB.out).rd hv
        subst hAe
        have hrd : vS.rd wr (ad.add (i * 11)) = some v := hrd
        obtain ⟨hvw, hvz⟩ := HW.out v (List.mem_of_getElem? hv)
        have CU := Lib.hid (vcut_any v false wr (by simp only [maxLen] at hvz; omega))
        have HT : Kept (D.cuts (vs.take (i + 1)) = D.cuts (vs.take i) ++ [D.cutV v false]) := ⟨by rw [List.take_add_one, hv]; simp only [Option.toList_some]; rw [D.cuts_snoc]⟩
        have hcw := D.cutV_wf hvw false
        obtain ⟨x, hx⟩ : ∃ x, D.cutV v false = x := ⟨_, rfl⟩
        rw [hx] at CU HT hcw
        have HCW := Lib.hid hcw
        clear hv hvw hvz hcw hx
        obtain ⟨p, hp⟩ : ∃ p, D.per l1 x = p := ⟨_, rfl⟩
        obtain ⟨l2, hl2⟩ : ∃ l2, D.pt l1 x = l2 := ⟨_, rfl⟩
        have hp1000 : p < 1000 := by rw [← hp]; exact D.per_lt l1 x
        have hl21 : l2.length ≤ l1.length + 1 := by rw [← hl2, D.pt]; split <;> simp
        have CDP : Hid (∀ W, DR W A4 l1.length l1 → Calls Try.prog 11 #[.slice A4 l1.length c4, .agg (wS.v x)] W fun e w' => ∃ A' c', e = .returned (.tuple #[.slice A' l2.length c', .int .i64 (p : Nat)]) ∧ DR w' A' l2.length l2 ∧ Below W.heap.size W w') := fun W h => by
          have := dput_any (c := c4) h (by omega) x
          unfold DPut at this
          rw [hl2, hp] at this
          exact this
        have HPP := Lib.hid (show D.per l1 x = p ∧ D.pt l1 x = l2 from ⟨hp, hl2⟩)
        have hcl : Kept (l1.length ≤ q ∧ q ≤ i) := ⟨by
          have h1 := D.puts_le (D.cuts (vs.take i)) []
          have h2 := D.puts_cnt (D.cuts (vs.take i)) []
          rw [HP.out] at h1 h2
          simp [D.cuts] at h1 h2
          omega⟩
        clear hp hl2
        by_cases he0 : e = 0
        · subst he0
          by_cases hp0 : p = 0
          · subst hp0
            have HP2 : Kept (D.puts [] (D.cuts (vs.take (i + 1))) = (l2, q + 1, 0)) := ⟨by rw [HT.out, D.puts_more _ _ _ (by rw [HP.out]), HP.out, HPP.out.1, HPP.out.2]; rfl⟩
            go_wp2_with (first
              | (go_at_call 10; (with_reducible refine CU.out.mono ?_); rintro e1 w1 ⟨rfl, b1⟩; have B1 := Lib.hid (below_up HB.out (hs.out _ HB.out) b1); have O1 := HO.out.on b1; have D1 := Lib.hid (HD.out.on b1); have C1 := Lib.hid (HC.out.on b1))
              | (at_builtin; refine gapp _ Try.underlying24 ver_info rfl (by decide) (by decide) rfl (.tmp 27) (.tmp 29) rfl rfl ((O1.alloc (.cells (vS.v x) 32)).alloc (.cells (vS.v x) 32)) rfl (rw_shp vS _ x 32 _ (by simp)) (vS.one x) (by omega) ?_; intro A6 c6 w2 ho2 hg2 hat2; obtain ⟨r2, b2, kD, kC⟩ := app_box B1.out (hs.out _ B1.out) O1 hg2; have B2 := Lib.hid b2; have D2 := Lib.hid (kD D1.out); have C2 := Lib.hid (kC C1.out); have HO2 : Hid (Ow 32 11 g w2 A6 (i + 1) c6 (vS.rcs (D.cuts (vs.take (i + 1))))) := (by show Ow 32 11 g w2 A6 (i + 1) c6 _; rw [HT.out, rcs_snoc]; exact ho2); clear hg2 hat2 kD kC ho2 b2 O1)
              | (go_at_call 12; refine (vof_any x w2 HCW.out).mono ?_; rintro e3 w3 ⟨rfl, b3⟩; have HB3 := Lib.hid b3; clear b3)
              | (go_at_call 11; refine (CDP.out w3 (D2.out.on HB3.out)).mono ?_; rintro e4 w4 ⟨A7, c7, rfl, hd7, b4⟩; have HB4 := Lib.hid (below_up HB3.out HB3.out.size b4); have HD7 := Lib.hid hd7; clear hd7 b4))
            go_roundw
            case rel => exact ⟨i + 1, A7, A6, c7, c6, q + 1, 0, l2, by omega, by omega, by go_num, rfl, rfl, by go_num, rfl, by have := hcl.out; omega, by omega, by have := hcl.out; omega, Lib.hid (C2.out.on HB4.out), Lib.hid (below_up B2.out (hs.out _ B2.out) HB4.out), HD7, Lib.hid (HO2.out.on HB4.out), HP2⟩
            case measure => simp [intOf]; omega
          · have hpi : ¬ ((p : Int) = 0) := by omega
            have HP2 : Kept (D.puts [] (D.cuts (vs.take (i + 1))) = (l2, q, p)) := ⟨by rw [HT.out, D.puts_more _ _ _ (by rw [HP.out]), HP.out, HPP.out.1, HPP.out.2, if_neg hp0]; rfl⟩
            go_wp2_with (first
              | (go_at_call 10; (with_reducible refine CU.out.mono ?_); rintro e1 w1 ⟨rfl, b1⟩; have B1 := Lib.hid (below_up HB.out (hs.out _ HB.out) b1); have O1 := HO.out.on b1; have D1 := Lib.hid (HD.out.on b1); have C1 := Lib.hid (HC.out.on b1))
              | (at_builtin; refine gapp _ Try.underlying24 ver_info rfl (by decide) (by decide) rfl (.tmp 27) (.tmp 29) rfl rfl ((O1.alloc (.cells (vS.v x) 32)).alloc (.cells (vS.v x) 32)) rfl (rw_shp vS _ x 32 _ (by simp)) (vS.one x) (by omega) ?_; intro A6 c6 w2 ho2 hg2 hat2; obtain ⟨r2, b2, kD, kC⟩ := app_box B1.out (hs.out _ B1.out) O1 hg2; have B2 := Lib.hid b2; have D2 := Lib.hid (kD D1.out); have C2 := Lib.hid (kC C1.out); have HO2 : Hid (Ow 32 11 g w2 A6 (i + 1) c6 (vS.rcs (D.cuts (vs.take (i + 1))))) := (by show Ow 32 11 g w2 A6 (i + 1) c6 _; rw [HT.out, rcs_snoc]; exact ho2); clear hg2 hat2 kD kC ho2 b2 O1)
              | (go_at_call 12; refine (vof_any x w2 HCW.out).mono ?_; rintro e3 w3 ⟨rfl, b3⟩; have HB3 := Lib.hid b3; clear b3)
              | (go_at_call 11; refine (CDP.out w3 (D2.out.on HB3.out)).mono ?_; rintro e4 w4 ⟨A7, c7, rfl, hd7, b4⟩; have HB4 := Lib.hid (below_up HB3.out HB3.out.size b4); have HD7 := Lib.hid hd7; clear hd7 b4))
            go_roundw
            case rel => exact ⟨i + 1, A7, A6, c7, c6, q, p, l2, by omega, by omega, by go_num, rfl, rfl, rfl, rfl, hq20, hp1000, by have := hcl.out; omega, Lib.hid (C2.out.on HB4.out), Lib.hid (below_up B2.out (hs.out _ B2.out) HB4.out), HD7, Lib.hid (HO2.out.on HB4.out), HP2⟩
            case measure => simp [intOf]; omega
        · have hei : ¬ ((e : Int) = 0) := by omega
          have HP2 : Kept (D.puts [] (D.cuts (vs.take (i + 1))) = (l1, q, e)) := ⟨by rw [HT.out, D.puts_stop _ _ _ (by rw [HP.out]; exact he0)]; exact HP.out⟩
          go_wp2_with (first
            | (go_at_call 10; (with_reducible refine CU.out.mono ?_); rintro e1 w1 ⟨rfl, b1⟩; have B1 := Lib.hid (below_up HB.out (hs.out _ HB.out) b1); have O1 := HO.out.on b1; have D1 := Lib.hid (HD.out.on b1); have C1 := Lib.hid (HC.out.on b1))
              | (at_builtin; refine gapp _ Try.underlying24 ver_info rfl (by decide) (by decide) rfl (.tmp 27) (.tmp 29) rfl rfl ((O1.alloc (.cells (vS.v x) 32)).alloc (.cells (vS.v x) 32)) rfl (rw_shp vS _ x 32 _ (by simp)) (vS.one x) (by omega) ?_; intro A6 c6 w2 ho2 hg2 hat2; obtain ⟨r2, b2, kD, kC⟩ := app_box B1.out (hs.out _ B1.out) O1 hg2; have B2 := Lib.hid b2; have D2 := Lib.hid (kD D1.out); have C2 := Lib.hid (kC C1.out); have HO2 : Hid (Ow 32 11 g w2 A6 (i + 1) c6 (vS.rcs (D.cuts (vs.take (i + 1))))) := (by show Ow 32 11 g w2 A6 (i + 1) c6 _; rw [HT.out, rcs_snoc]; exact ho2); clear hg2 hat2 kD kC ho2 b2 O1))
          go_roundw
          case rel => exact ⟨i + 1, A4, A6, c4, c6, q, e, l1, by omega, by omega, by go_num, rfl, rfl, rfl, rfl, hq20, he, hl20, C2, B2, D2, HO2, HP2⟩
          case measure => simp [intOf]; omega
      · have j2 : ¬ ((i : Int) < 20) := by omega
        have CPT : Hid (Calls Try.prog 13 #[.pointer (some ⟨g, 0, none⟩), .slice A5 i c5] wr fun e1 w' => e1 = .returned (.tuple #[.int .i64 (q : Nat), .int .i64 (e : Nat)]) ∧ Putd g g none wr l1 w') := Lib.hid (by
          have h := put_any (d := c5) HC.out (ow_vrow HO.out) (fun ad ha _ => ⟨fun hg5 => by
            obtain ⟨cs2, h2⟩ := ow_block HO.out (i := g) ⟨ad, ha, hg5⟩
            have := h2.symm.trans HC.out.blk.out
            injection this with this
            injection this with _ h3
            exact absurd h3 (by decide), fun ⟨_, h, _⟩ => by cases h⟩) (fun u hu => by
            simp only [D.cuts, List.mem_map] at hu
            obtain ⟨v, hv, rfl⟩ := hu
            exact D.cutV_wf (HW.out v (List.mem_of_mem_take hv)).1 false) (by simp; omega)
          rw [HP.out] at h
          exact h)
        try rw [hg]
        go_wp2_with (first
          | (go_at_call 13; (with_reducible refine CPT.out.mono ?_); rintro e1 w1 ⟨rfl, A1, c1, hC1, hO1, -⟩; have HC1 := Lib.hid hC1; have HD1 : Hid (DR w1 A4 l1.length l1) := Lib.hid (HD.out.only hO1 (fun k hk cs hcs => by (rcases hk with rfl | ⟨_, h, _⟩; (have := hcs.symm.trans HC.out.blk.out; injection this with this; injection this with _ h3; exact absurd h3 (by decide)); cases h))); have HB1 : Hid (Below g w w1) := Lib.hid (HB.out.trans (hO1.below (hs.out _ HB.out) (fun k hk => by (rcases hk with rfl | ⟨_, h, _⟩; exact Nat.le_refl _; cases h)))); clear hC1 hO1)
          | (go_at_call 18; (with_reducible refine (CK.out _).mono ?_); rintro e2 w2 ⟨rfl, b2⟩; have HC2 := Lib.hid (HC1.out.on b2); have HD2 := Lib.hid (HD1.out.on b2); have HB2 := Lib.hid (below_up HB1.out (hs.out _ HB1.out) b2); clear b2)
          | (go_at_call 17; refine (holds_any HC2.out.al HC2.out.wf (by omega) HD2.out).mono ?_; rintro e3 w3 ⟨rfl, b3⟩; have HB3 := Lib.hid (below_up HB2.out (hs.out _ HB2.out) b3); clear b3))
        go_ret
        exact ⟨rfl, (by rw [hg]; exact HB3.out)⟩
    · have j1 : ¬ ((i : Int) < (n : Int)) := by omega
      have CPT : Hid (Calls Try.prog 13 #[.pointer (some ⟨g, 0, none⟩), .slice A5 i c5] wr fun e1 w' => e1 = .returned (.tuple #[.int .i64 (q : Nat), .int .i64 (e : Nat)]) ∧ Putd g g none wr l1 w') := Lib.hid (by
        have h := put_any (d := c5) HC.out (ow_vrow HO.out) (fun ad ha _ => ⟨fun hg5 => by
          obtain ⟨cs2, h2⟩ := ow_block HO.out (i := g) ⟨ad, ha, hg5⟩
          have := h2.symm.trans HC.out.blk.out
          injection this with this
          injection this with _ h3
          exact absurd h3 (by decide), fun ⟨_, h, _⟩ => by cases h⟩) (fun u hu => by
          simp only [D.cuts, List.mem_map] at hu
          obtain ⟨v, hv, rfl⟩ := hu
          exact D.cutV_wf (HW.out v (List.mem_of_mem_take hv)).1 false) (by simp; omega)
        rw [HP.out] at h
        exact h)
      try rw [hg]
      go_wp2_with (first
        | (go_at_call 13; (with_reducible refine CPT.out.mono ?_); rintro e1 w1 ⟨rfl, A1, c1, hC1, hO1, -⟩; have HC1 := Lib.hid hC1; have HD1 : Hid (DR w1 A4 l1.length l1) := Lib.hid (HD.out.only hO1 (fun k hk cs hcs => by (rcases hk with rfl | ⟨_, h, _⟩; (have := hcs.symm.trans HC.out.blk.out; injection this with this; injection this with _ h3; exact absurd h3 (by decide)); cases h))); have HB1 : Hid (Below g w w1) := Lib.hid (HB.out.trans (hO1.below (hs.out _ HB.out) (fun k hk => by (rcases hk with rfl | ⟨_, h, _⟩; exact Nat.le_refl _; cases h)))); clear hC1 hO1)
        | (go_at_call 18; (with_reducible refine (CK.out _).mono ?_); rintro e2 w2 ⟨rfl, b2⟩; have HC2 := Lib.hid (HC1.out.on b2); have HD2 := Lib.hid (HD1.out.on b2); have HB2 := Lib.hid (below_up HB1.out (hs.out _ HB1.out) b2); clear b2)
        | (go_at_call 17; refine (holds_any HC2.out.al HC2.out.wf (by omega) HD2.out).mono ?_; rintro e3 w3 ⟨rfl, b3⟩; have HB3 := Lib.hid (below_up HB2.out (hs.out _ HB2.out) b3); clear b3))
      go_ret
      exact ⟨rfl, (by rw [hg]; exact HB3.out)⟩
end Go.Proofs.Ytcnbdfobhablbaa
