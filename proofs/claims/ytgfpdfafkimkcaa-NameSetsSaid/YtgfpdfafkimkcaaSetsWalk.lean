/-
  The law of sets: its walk.
-/
import Derived.Test.YtgfpdfafkimkcaaAct
set_option linter.unusedVariables false
set_option linter.unusedSimpArgs false
namespace Go.Proofs.Ytgfpdfafkimkcaa
open Go.RowKit Go.Sort
attribute [local go_sem ↓] Go.wp_at_zero Go.wp_at_succ ld_a ld_n st_a st_n eq_a eq_n ne_a ne_n bsl_a bsl_n lv_a lv_n ld_c st_c bd_d st_d
attribute [local go_sem] run_ld_a run_ld_n run_st_n run_eq_a run_eq_n run_ne_a run_ne_n run_bsl1_a run_bsl1_n run_bsl2 run_lv_a run_lv_n st_z ne_z rd_new rd_old rd_drew rd_drewN rd_ext run_ld_c run_st_c run_st_a run_bd_d run_st_d

set_option maxRecDepth 100000 in
set_option maxHeartbeats 4000000 in
theorem sets_all (A : Option Addr) (len cap : Nat) (l : List D.Ac) (w : World) (hrow : ARow w A len l) (hcap : len ≤ cap) (hmax : cap ≤ maxLen) :
    Calls Try.prog 6 #[.slice A len cap] w fun e w' => e = .returned (.bool true) ∧ Below w.heap.size w w' := by
  have hS0 := set_new w w.heap.size (Nat.le_refl _)
  simp only [maxLen] at hmax
  go_enter Try.func6, Try.ntmps6
  go_wp2
  go_loopw [4, 5] (fun s i wr => ∃ (k : Nat) (B : Option Addr) (p d : Nat) (M : Option Nat) (L : List D.Nm), k ≤ len ∧ k ≤ 80 ∧ i = .int .i64 k ∧ s = .slice B p d ∧ NOwn w.heap.size 22 wr B p d L ∧ SetP w.heap.size wr w.heap.size M L ∧ Held L ∧ D.Srt L ∧ Below w.heap.size w wr) (fun _ i _ => len - (intOf i).toNat)
  case atStart => exact ⟨0, none, 0, 0, none, [], Nat.zero_le _, Nat.zero_le _, rfl, rfl, NOwn.nil (by simp), hS0, held_nil, List.Pairwise.nil, below_alloc_ _ _⟩
  case round =>
    obtain ⟨k, B, p, d, M, L, hk, hk2, rfl, rfl, ho, hS, hH, hR, hb⟩ := hrel
    clear hS0
    have h64 := hH.le
    have hp := ho.len
    by_cases hlt : k < len
    · by_cases h80 : k < 80
      · have i1 : (k : Int) < (len : Int) := by omega
        have i2 : (k : Int) < 80 := by omega
        have i0 : (0 : Int) ≤ (k : Int) := by omega
        obtain ⟨x, hx⟩ : ∃ x, l[k]? = some x := ⟨_, List.getElem?_eq_getElem (by rw [hrow.len]; exact hlt)⟩
        obtain ⟨ad, rfl, hadl, hr⟩ := (hrow.on hb).rd hx
        obtain ⟨c1, fa, fb⟩ := act_at (Blk.new wr 50 (acv x))
        have B6 := (Blk.new wr 50 (acv x)).alloc (.cells (two x.a x.b) 51)
        have B8 := Blk.new (wr.alloc (.cells (acv x) 50)) 51 (two x.a x.b)
        have ho6 := (ho.alloc (.cells (acv x) 50)).alloc (.cells (two x.a x.b) 51)
        have hS6 := (hS.alloc (.cells (acv x) 50)).alloc (.cells (two x.a x.b) 51)
        have z6 := (hb.alloc hb.size (.cells (acv x) 50)).alloc (by simpa using Nat.le_succ_of_le hb.size) (.cells (two x.a x.b) 51)
        rw [World.size_alloc] at B8
        clear hx ho hS hb
        obtain ⟨o, a, b⟩ := x
        simp only at fa fb
        cases o
        · go_wp2
          generalize hW6 : (wr.alloc (.cells (acv ⟨false, a, b⟩) 50)).alloc (.cells (two a b) 51) = w6 at *
          go_loopw [4, 9] (fun s i wr2 => ∃ (B : Option Addr) (p2 d : Nat) (L2 : List D.Nm), s = .slice B p2 d ∧ NOwn w.heap.size 22 wr2 B p2 d L2 ∧ Below w6.heap.size w6 wr2 ∧
            ((i = .int .i64 0 ∧ Kept (L2 = L)) ∨ (i = .int .i64 1 ∧ Kept (L2 = stp false L a)) ∨ (i = .int .i64 2 ∧ Kept (L2 = stp false (stp false L a) b)))) (fun _ i _ => (2 - intOf i).toNat)
          case atStart => exact ⟨B, p, d, L, rfl, ho6, Below.refl _ _, .inl ⟨rfl, ⟨rfl⟩⟩⟩
          case round =>
            obtain ⟨B2, p2, d2, L2, rfl, ho2, b2, hcase⟩ := hrel
            rcases hcase with ⟨rfl, hL2⟩ | ⟨rfl, hL2⟩ | ⟨rfl, hL2⟩
            · -- one name, a
              have f8 := (two_at (B8.on b2)).1
              have c6 := (act_at ((B6.on b2).alloc (.cells (nc a) 22))).1
              have f10 := rd_new wr _ 22 a rfl
              have ho3 := ho2.alloc (.cells (nc a) 22)
              have hH2 : Held L2 := by rw [hL2.out]; exact hH
              have h64' := hH2.le
              have hp2 := ho2.len
              have HT := ref_text a
              simp only at c6
              have bb := b2.alloc b2.size (.cells (nc a) 22)
              have zz := bb.size
              have zw := z6.size
              cases hrt : D.right a
              · rw [ts_no hrt] at HT
                have CT := Lib.hid HT
                have HA : Kept (add1 L2 a = L2) := ⟨by unfold add1; rw [if_neg (by simp [hrt])]⟩
                clear HT hrt
                go_wp2_with (go_at_call 14; (with_reducible refine (CT.out _).mono ?_); rintro e w3 ⟨rfl, b3⟩)
                go_roundw
                case rel => exact ⟨B2, p2, d2, _, rfl, ho3.on b3, bb.trans (b3.mono zz), .inr (.inl ⟨rfl, ⟨by rw [← hL2.out]; exact HA.out.symm⟩⟩)⟩
                case measure => simp [intOf]
              · have ht := not_empty (ts_yes hrt)
                obtain ⟨t, htt⟩ : ∃ t, ts a = t := ⟨_, rfl⟩
                rw [htt] at HT ht
                have CT := Lib.hid HT
                clear HT htt
                have cI := fun W h => in_any B2 p2 d2 L2 a W h (by omega)
                by_cases hin : a ∈ L2
                · have HA : Kept (add1 L2 a = L2) := ⟨by unfold add1; rw [if_neg (fun h => h.2.1 hin)]⟩
                  have hpos := D.cnt_pos.2 hin
                  obtain ⟨cn, hcn⟩ : ∃ cn, D.cnt L2 a = cn := ⟨_, rfl⟩
                  rw [hcn] at hpos cI
                  have CI := Lib.hid cI
                  have hne : ((cn : Int) == 0) = false := by rw [beq_eq_false_iff_ne]; omega
                  clear hin hcn cI hrt
                  go_wp2_with (first
                    | (go_at_call 14; (with_reducible refine (CT.out _).mono ?_); rintro e w3 ⟨rfl, b3⟩; have ho4 := ho3.on b3; have f11 := rd_on f10 b3; have bb3 := bb.trans (b3.mono zz))
                    | (go_at_call 21; (with_reducible refine (CI.out _ ho4.to_row).mono ?_); rintro e w4 ⟨rfl, b4⟩))
                  go_roundw
                  case rel => exact ⟨B2, p2, d2, _, rfl, ho4.on b4, bb3.trans (b4.mono bb3.size), .inr (.inl ⟨rfl, ⟨by rw [← hL2.out]; exact HA.out.symm⟩⟩)⟩
                  case measure => simp [intOf]
                · have hz : D.cnt L2 a = 0 := Nat.eq_zero_of_not_pos (fun h => hin (D.cnt_pos.1 h))
                  rw [hz] at cI
                  have CI := Lib.hid (show ∀ W, NRow W B2 p2 L2 → Calls Try.prog 21 #[.slice B2 p2 d2, .agg (nc a)] W fun e w' => e = .returned (.int .i64 0) ∧ Below W.heap.size W w' from cI)
                  by_cases hfl : p2 < 64
                  · have HA : Kept (D.ins L2 a = add1 L2 a) := ⟨by unfold add1; rw [if_pos ⟨hrt, hin, by rw [hp2]; exact hfl⟩]⟩
                    have j64 : (p2 : Int) < 64 := by omega
                    have cN := Lib.hid (fun W h => insert_any B2 p2 d2 L2 a W h ho2.cap.1 (by omega))
                    clear hin hz cI hrt
                    go_wp2_with (first
                      | (go_at_call 14; (with_reducible refine (CT.out _).mono ?_); rintro e w3 ⟨rfl, b3⟩; have ho4 := ho3.on b3; have f11 := rd_on f10 b3; have bb3 := bb.trans (b3.mono zz))
                      | (go_at_call 21; (with_reducible refine (CI.out _ ho4.to_row).mono ?_); rintro e w4 ⟨rfl, b4⟩; have ho5 := ho4.on b4; have f12 := rd_on f11 b4; have bb4 := bb3.trans (b4.mono bb3.size))
                      | (go_at_call 18; (with_reducible refine (cN.out _ ho5.to_row).mono ?_); rintro e w5 ⟨B5, p5, d5, rfl, hoI, b5⟩))
                    go_roundw
                    case rel => exact ⟨B5, p5, d5, _, rfl, hoI.low (by have := bb4.size; omega), bb4.trans (b5.mono bb4.size), .inr (.inl ⟨rfl, ⟨by rw [← hL2.out]; exact HA.out⟩⟩)⟩
                    case measure => simp [intOf]
                  · have HA : Kept (add1 L2 a = L2) := ⟨by unfold add1; rw [if_neg (fun h => hfl (by have := h.2.2; omega))]⟩
                    have j64 : (64 : Int) ≤ (p2 : Int) := by omega
                    clear hin hz cI hrt
                    go_wp2_with (first
                      | (go_at_call 14; (with_reducible refine (CT.out _).mono ?_); rintro e w3 ⟨rfl, b3⟩; have ho4 := ho3.on b3; have f11 := rd_on f10 b3; have bb3 := bb.trans (b3.mono zz))
                      | (go_at_call 21; (with_reducible refine (CI.out _ ho4.to_row).mono ?_); rintro e w4 ⟨rfl, b4⟩))
                    go_roundw
                    case rel => exact ⟨B2, p2, d2, _, rfl, ho4.on b4, bb3.trans (b4.mono bb3.size), .inr (.inl ⟨rfl, ⟨by rw [← hL2.out]; exact HA.out.symm⟩⟩)⟩
                    case measure => simp [intOf]
            · -- one name, b
              have f8 := (two_at (B8.on b2)).2
              have c6 := (act_at ((B6.on b2).alloc (.cells (nc b) 22))).1
              have f10 := rd_new wr _ 22 b rfl
              have ho3 := ho2.alloc (.cells (nc b) 22)
              have hH2 : Held L2 := by rw [hL2.out]; exact hH.stp false a
              have h64' := hH2.le
              have hp2 := ho2.len
              have HT := ref_text b
              simp only at c6
              have bb := b2.alloc b2.size (.cells (nc b) 22)
              have zz := bb.size
              have zw := z6.size
              cases hrt : D.right b
              · rw [ts_no hrt] at HT
                have CT := Lib.hid HT
                have HA : Kept (add1 L2 b = L2) := ⟨by unfold add1; rw [if_neg (by simp [hrt])]⟩
                clear HT hrt
                go_wp2_with (go_at_call 14; (with_reducible refine (CT.out _).mono ?_); rintro e w3 ⟨rfl, b3⟩)
                go_roundw
                case rel => exact ⟨B2, p2, d2, _, rfl, ho3.on b3, bb.trans (b3.mono zz), .inr (.inr ⟨rfl, ⟨by rw [← hL2.out]; exact HA.out.symm⟩⟩)⟩
                case measure => simp [intOf]
              · have ht := not_empty (ts_yes hrt)
                obtain ⟨t, htt⟩ : ∃ t, ts b = t := ⟨_, rfl⟩
                rw [htt] at HT ht
                have CT := Lib.hid HT
                clear HT htt
                have cI := fun W h => in_any B2 p2 d2 L2 b W h (by omega)
                by_cases hin : b ∈ L2
                · have HA : Kept (add1 L2 b = L2) := ⟨by unfold add1; rw [if_neg (fun h => h.2.1 hin)]⟩
                  have hpos := D.cnt_pos.2 hin
                  obtain ⟨cn, hcn⟩ : ∃ cn, D.cnt L2 b = cn := ⟨_, rfl⟩
                  rw [hcn] at hpos cI
                  have CI := Lib.hid cI
                  have hne : ((cn : Int) == 0) = false := by rw [beq_eq_false_iff_ne]; omega
                  clear hin hcn cI hrt
                  go_wp2_with (first
                    | (go_at_call 14; (with_reducible refine (CT.out _).mono ?_); rintro e w3 ⟨rfl, b3⟩; have ho4 := ho3.on b3; have f11 := rd_on f10 b3; have bb3 := bb.trans (b3.mono zz))
                    | (go_at_call 21; (with_reducible refine (CI.out _ ho4.to_row).mono ?_); rintro e w4 ⟨rfl, b4⟩))
                  go_roundw
                  case rel => exact ⟨B2, p2, d2, _, rfl, ho4.on b4, bb3.trans (b4.mono bb3.size), .inr (.inr ⟨rfl, ⟨by rw [← hL2.out]; exact HA.out.symm⟩⟩)⟩
                  case measure => simp [intOf]
                · have hz : D.cnt L2 b = 0 := Nat.eq_zero_of_not_pos (fun h => hin (D.cnt_pos.1 h))
                  rw [hz] at cI
                  have CI := Lib.hid (show ∀ W, NRow W B2 p2 L2 → Calls Try.prog 21 #[.slice B2 p2 d2, .agg (nc b)] W fun e w' => e = .returned (.int .i64 0) ∧ Below W.heap.size W w' from cI)
                  by_cases hfl : p2 < 64
                  · have HA : Kept (D.ins L2 b = add1 L2 b) := ⟨by unfold add1; rw [if_pos ⟨hrt, hin, by rw [hp2]; exact hfl⟩]⟩
                    have j64 : (p2 : Int) < 64 := by omega
                    have cN := Lib.hid (fun W h => insert_any B2 p2 d2 L2 b W h ho2.cap.1 (by omega))
                    clear hin hz cI hrt
                    go_wp2_with (first
                      | (go_at_call 14; (with_reducible refine (CT.out _).mono ?_); rintro e w3 ⟨rfl, b3⟩; have ho4 := ho3.on b3; have f11 := rd_on f10 b3; have bb3 := bb.trans (b3.mono zz))
                      | (go_at_call 21; (with_reducible refine (CI.out _ ho4.to_row).mono ?_); rintro e w4 ⟨rfl, b4⟩; have ho5 := ho4.on b4; have f12 := rd_on f11 b4; have bb4 := bb3.trans (b4.mono bb3.size))
                      | (go_at_call 18; (with_reducible refine (cN.out _ ho5.to_row).mono ?_); rintro e w5 ⟨B5, p5, d5, rfl, hoI, b5⟩))
                    go_roundw
                    case rel => exact ⟨B5, p5, d5, _, rfl, hoI.low (by have := bb4.size; omega), bb4.trans (b5.mono bb4.size), .inr (.inr ⟨rfl, ⟨by rw [← hL2.out]; exact HA.out⟩⟩)⟩
                    case measure => simp [intOf]
                  · have HA : Kept (add1 L2 b = L2) := ⟨by unfold add1; rw [if_neg (fun h => hfl (by have := h.2.2; omega))]⟩
                    have j64 : (64 : Int) ≤ (p2 : Int) := by omega
                    clear hin hz cI hrt
                    go_wp2_with (first
                      | (go_at_call 14; (with_reducible refine (CT.out _).mono ?_); rintro e w3 ⟨rfl, b3⟩; have ho4 := ho3.on b3; have f11 := rd_on f10 b3; have bb3 := bb.trans (b3.mono zz))
                      | (go_at_call 21; (with_reducible refine (CI.out _ ho4.to_row).mono ?_); rintro e w4 ⟨rfl, b4⟩))
                    go_roundw
                    case rel => exact ⟨B2, p2, d2, _, rfl, ho4.on b4, bb3.trans (b4.mono bb3.size), .inr (.inr ⟨rfl, ⟨by rw [← hL2.out]; exact HA.out.symm⟩⟩)⟩
                    case measure => simp [intOf]
            · -- both names are through
              have hH2 : Held L2 := by rw [hL2.out]; exact (hH.stp false a).stp false b
              have hR2 : D.Srt L2 := by rw [hL2.out]; exact srt_stp (srt_stp hR false a) false b
              have hp2 := ho2.len
              have h642 := hH2.le
              have hd2 : adds L [a, b] = L2 := by rw [hL2.out]; rfl
              have hSr := hS6.on b2
              have zr := z6.trans (b2.mono z6.size)
              have c6 := act_at (B6.on b2)
              obtain ⟨c60, c6a, c6b⟩ := c6
              simp only at c60 c6a c6b
              have hS7 := hSr.alloc (.cells (nc a ++ nc b) 23)
              have R7 := nrow_two wr 23 _ a b rfl
              have O7 := hSr.new_off wr.heap.size (Nat.le_refl _)
              have ho7 := ho2.alloc (.cells (nc a ++ nc b) 23)
              have Y7 := (B6.on b2).alloc (.cells (nc a ++ nc b) 23)
              have z7 := zr.alloc zr.size (.cells (nc a ++ nc b) 23)
              have c70 := (act_at Y7).1
              simp only at c70
              have cD := Lib.hid (show Calls Try.prog 24 #[.pointer (some ⟨w.heap.size, 0, none⟩), .slice (some ⟨wr.heap.size, 0, none⟩) 2 2] (wr.alloc (.cells (nc a ++ nc b) 23)) fun e w' => e = .returned (.int .i64 ((p2 : Int) - (p : Int))) ∧ ∃ M', SetP w.heap.size w' w.heap.size M' L2 ∧ Only (Sf w.heap.size M) (wr.alloc (.cells (nc a ++ nc b) 23)) w' by
                refine (add_any _ _ M _ 2 2 L [a, b] _ hS7 hH R7 O7 (by omega)).mono ?_
                rintro e w' ⟨he, M', h1, h2, _⟩
                rw [hd2] at he h1
                rw [hp, hp2] at he
                exact ⟨he, M', h1, h2⟩)
              have cL := Lib.hid (fun M' W (h : SetP w.heap.size W w.heap.size M' L2) => list_any w.heap.size w.heap.size _ L2 W h hH2 hR2)
              clear hL2 hd2
              go_wp2_with (first
                | (go_at_call 24; (with_reducible refine cD.out.mono ?_); rintro e w8 ⟨rfl, M8, hS8, o8⟩; have ho8 := ho7.only hS7 (by decide) o8; have Y8 := blk_only hS7 Y7 (by decide) o8; have z8 := hS7.below z7 z7.size o8; have c80 := (act_at Y8).1; simp only at c80)
                | (go_at_call 25; (with_reducible refine (cL.out _ _ hS8).mono ?_); rintro e w9 ⟨B9, m9, c9, rfl, hgot, b9⟩))
              clear cD cL
              have ho9 := ho8.on b9
              have hS9 := hS8.on b9
              have B9 := Y8.on b9
              have z9 := z8.trans (b9.mono z8.size)
              have hg9 := hgot.to_row
              have hm9 := hgot.len
              obtain rfl : m9 = p2 := hm9.symm.trans hp2
              have cLen := Lib.hid (fun o : On => show Calls Try.prog 26 #[.pointer (some ⟨w.heap.size, 0, none⟩)] (ext w9 o) fun e w' => e = .returned (.int .i64 (m9 : Nat)) ∧ ext w9 o = w' by
                have := len_any _ _ _ _ _ (hS9.on (ext_below w9 o))
                rw [hp2] at this
                exact this)
              obtain ⟨h, hh⟩ : ∃ h, decide (a ∈ L2) = h := ⟨_, rfl⟩
              obtain ⟨cn, hcn⟩ : ∃ cn, D.cnt L2 a = cn := ⟨_, rfl⟩
              have hdec : decide ((0 : Int) < (cn : Int)) = h := by
                rw [← hh, decide_eq_decide, ← D.cnt_pos, hcn]
                omega
              have hdec2 : decide (0 < cn) = h := by
                rw [← hh, decide_eq_decide, ← D.cnt_pos, hcn]
              have cHas := Lib.hid (fun o : On => show Calls Try.prog 27 #[.pointer (some ⟨w.heap.size, 0, none⟩), .agg (nc a)] (ext w9 o) fun e w' => e = .returned (.bool h) ∧ Below (ext w9 o).heap.size (ext w9 o) w' by
                have := has_any _ _ _ _ a _ (hS9.on (ext_below w9 o))
                rw [hh] at this
                exact this)
              have cIn := Lib.hid (fun o : On => show Calls Try.prog 21 #[.slice B2 m9 d2, .agg (nc a)] (ext w9 o) fun e w' => e = .returned (.int .i64 (cn : Nat)) ∧ Below (ext w9 o).heap.size (ext w9 o) w' by
                have := in_any B2 m9 d2 L2 a (ext w9 o) (nrow_ext ho9.to_row o) (by omega)
                rw [hcn] at this
                exact this)
              have fa9 := (act_at B9).2.1
              simp only at fa9
              have gl9 := B9.lt
              clear hh hcn
              refine wp_region_ext (by kernel_rfl) (by kernel_rfl) ?_
              repeat (go_big_quiet_step ((first
                | (go_at_call 26; exact calls_same (cLen.out _))
                | (go_at_call 27; exact calls_ext (cHas.out _))
                | (go_at_call 21; exact calls_ext (cIn.out _)))))
              refine wpQuiet_nil ?_
              intro w10 hw10
              have b10 := ext_to hw10
              clear hw10 cLen cHas cIn fa9 gl9
              have ho10 := ho9.on b10
              have hS10 := hS9.on b10
              have hg10 := hg9.on b10
              have z10 := z9.trans (b10.mono z9.size)
              clear hg9 ho9 hS9 hgot
              go_wp2
              go_loopw [12] (fun i wr3 => ∃ q : Nat, q ≤ m9 ∧ i = .int .i64 q ∧ Below w10.heap.size w10 wr3) (fun i _ => m9 - (intOf i).toNat)
              case atStart => exact ⟨0, Nat.zero_le _, rfl, Below.refl _ _⟩
              case round =>
                obtain ⟨q, hq, rfl, b11⟩ := hrel
                by_cases hql : q < m9
                · obtain ⟨y, hy⟩ := nat_lt (l := L2) (i := q) (by rw [hp2]; exact hql)
                  obtain ⟨a1, hB, hbl1, hr1⟩ := (ho10.to_row.on b11).rd hy
                  obtain ⟨a2, hB2, hbl2, hr2⟩ := (hg10.on b11).rd hy
                  subst hB
                  subst hB2
                  have hbl1' : (a1.add (q * 12)).block < wr.heap.size := by rw [block_of_add]; exact hbl1
                  have hbl2' : (a2.add (q * 12)).block < wr.heap.size := by rw [block_of_add]; exact hbl2
                  have j1 : (q : Int) < (m9 : Int) := by omega
                  have j0 : (0 : Int) ≤ (q : Int) := by omega
                  have hsx : sm y y = true := by simp [sm]
                  go_wp2_with fail
                  refine wp_region_ext (by kernel_rfl) (by kernel_rfl) ?_
                  repeat (go_big_quiet_step (fail))
                  refine wpQuiet_nil ?_
                  intro w12 hw12
                  have b12 := ext_to hw12
                  clear hw12
                  go_wp2
                  go_roundw
                  case rel => exact ⟨q + 1, by omega, by go_num, b11.trans (b12.mono b11.size)⟩
                  case measure => simp [intOf]; omega
                · have j1 : (m9 : Int) ≤ (q : Int) := by omega
                  go_wp2
                  go_roundw
                  case rel => exact ⟨k + 1, B2, m9, d2, M8, L2, by omega, by omega, by go_num, rfl, ho10.on b11, hS10.on b11, hH2, hR2, z10.trans (b11.mono z10.size)⟩
                  case measure => simp [intOf]; omega
        · go_wp2
          generalize hW6 : (wr.alloc (.cells (acv ⟨true, a, b⟩) 50)).alloc (.cells (two a b) 51) = w6 at *
          go_loopw [4, 9] (fun s i wr2 => ∃ (B : Option Addr) (p2 d : Nat) (L2 : List D.Nm), s = .slice B p2 d ∧ NOwn w.heap.size 22 wr2 B p2 d L2 ∧ Below w6.heap.size w6 wr2 ∧
            ((i = .int .i64 0 ∧ Kept (L2 = L)) ∨ (i = .int .i64 1 ∧ Kept (L2 = stp true L a)) ∨ (i = .int .i64 2 ∧ Kept (L2 = stp true (stp true L a) b)))) (fun _ i _ => (2 - intOf i).toNat)
          case atStart => exact ⟨B, p, d, L, rfl, ho6, Below.refl _ _, .inl ⟨rfl, ⟨rfl⟩⟩⟩
          case round =>
            obtain ⟨B2, p2, d2, L2, rfl, ho2, b2, hcase⟩ := hrel
            rcases hcase with ⟨rfl, hL2⟩ | ⟨rfl, hL2⟩ | ⟨rfl, hL2⟩
            · -- one name, a
              have f8 := (two_at (B8.on b2)).1
              have c6 := (act_at ((B6.on b2).alloc (.cells (nc a) 22))).1
              have f10 := rd_new wr _ 22 a rfl
              have ho3 := ho2.alloc (.cells (nc a) 22)
              have hH2 : Held L2 := by rw [hL2.out]; exact hH
              have h64' := hH2.le
              have hp2 := ho2.len
              have hw := Lib.hid (without_any B2 p2 d2 L2 a _ ho3.to_row (by omega))
              simp only at c6
              go_wp2_with (go_at_call 22; (with_reducible refine hw.out.mono ?_); rintro e w3 ⟨B3, p3, d3, rfl, ho4, b3⟩)
              go_roundw
              case rel => exact ⟨B3, p3, d3, _, rfl, ho4.low (by have := z6.size; have := b2.size; simp; omega), (b2.alloc b2.size _).trans (b3.mono (by have := b2.size; simp; omega)), .inr (.inl ⟨rfl, ⟨by rw [hL2.out]; rfl⟩⟩)⟩
              case measure => simp [intOf]
            · -- one name, b
              have f8 := (two_at (B8.on b2)).2
              have c6 := (act_at ((B6.on b2).alloc (.cells (nc b) 22))).1
              have f10 := rd_new wr _ 22 b rfl
              have ho3 := ho2.alloc (.cells (nc b) 22)
              have hH2 : Held L2 := by rw [hL2.out]; exact hH.stp true a
              have h64' := hH2.le
              have hp2 := ho2.len
              have hw := Lib.hid (without_any B2 p2 d2 L2 b _ ho3.to_row (by omega))
              simp only at c6
              go_wp2_with (go_at_call 22; (with_reducible refine hw.out.mono ?_); rintro e w3 ⟨B3, p3, d3, rfl, ho4, b3⟩)
              go_roundw
              case rel => exact ⟨B3, p3, d3, _, rfl, ho4.low (by have := z6.size; have := b2.size; simp; omega), (b2.alloc b2.size _).trans (b3.mono (by have := b2.size; simp; omega)), .inr (.inr ⟨rfl, ⟨by rw [hL2.out]; rfl⟩⟩)⟩
              case measure => simp [intOf]
            · -- both names are through
              have hH2 : Held L2 := by rw [hL2.out]; exact (hH.stp true a).stp true b
              have hR2 : D.Srt L2 := by rw [hL2.out]; exact srt_stp (srt_stp hR true a) true b
              have hp2 := ho2.len
              have h642 := hH2.le
              have hd2 : dels L [a, b] = L2 := by rw [hL2.out]; rfl
              have hSr := hS6.on b2
              have zr := z6.trans (b2.mono z6.size)
              have c6 := act_at (B6.on b2)
              obtain ⟨c60, c6a, c6b⟩ := c6
              simp only at c60 c6a c6b
              have hS7 := hSr.alloc (.cells (nc a ++ nc b) 23)
              have R7 := nrow_two wr 23 _ a b rfl
              have O7 := hSr.new_off wr.heap.size (Nat.le_refl _)
              have ho7 := ho2.alloc (.cells (nc a ++ nc b) 23)
              have Y7 := (B6.on b2).alloc (.cells (nc a ++ nc b) 23)
              have z7 := zr.alloc zr.size (.cells (nc a ++ nc b) 23)
              have c70 := (act_at Y7).1
              simp only at c70
              have cD := Lib.hid (show Calls Try.prog 23 #[.pointer (some ⟨w.heap.size, 0, none⟩), .slice (some ⟨wr.heap.size, 0, none⟩) 2 2] (wr.alloc (.cells (nc a ++ nc b) 23)) fun e w' => e = .returned (.int .i64 ((p : Int) - (p2 : Int))) ∧ SetP w.heap.size w' w.heap.size M L2 ∧ Only (Sf w.heap.size M) (wr.alloc (.cells (nc a ++ nc b) 23)) w' by
                have := del_any _ _ M _ 2 2 L [a, b] _ hS7 hH R7 O7 (by omega)
                unfold Deled at this
                rw [hd2, hp, hp2] at this
                exact this)
              have cL := Lib.hid (fun W h => list_any w.heap.size w.heap.size M L2 W h hH2 hR2)
              clear hL2 hd2
              go_wp2_with (first
                | (go_at_call 23; (with_reducible refine cD.out.mono ?_); rintro e w8 ⟨rfl, hS8, o8⟩; have ho8 := ho7.only hS7 (by decide) o8; have Y8 := blk_only hS7 Y7 (by decide) o8; have z8 := hS7.below z7 z7.size o8; have c80 := (act_at Y8).1; simp only at c80)
                | (go_at_call 25; (with_reducible refine (cL.out _ hS8).mono ?_); rintro e w9 ⟨B9, m9, c9, rfl, hgot, b9⟩))
              clear cD cL
              have ho9 := ho8.on b9
              have hS9 := hS8.on b9
              have B9 := Y8.on b9
              have z9 := z8.trans (b9.mono z8.size)
              have hg9 := hgot.to_row
              have hm9 := hgot.len
              obtain rfl : m9 = p2 := hm9.symm.trans hp2
              have cLen := Lib.hid (fun o : On => show Calls Try.prog 26 #[.pointer (some ⟨w.heap.size, 0, none⟩)] (ext w9 o) fun e w' => e = .returned (.int .i64 (m9 : Nat)) ∧ ext w9 o = w' by
                have := len_any _ _ _ _ _ (hS9.on (ext_below w9 o))
                rw [hp2] at this
                exact this)
              obtain ⟨h, hh⟩ : ∃ h, decide (a ∈ L2) = h := ⟨_, rfl⟩
              obtain ⟨cn, hcn⟩ : ∃ cn, D.cnt L2 a = cn := ⟨_, rfl⟩
              have hdec : decide ((0 : Int) < (cn : Int)) = h := by
                rw [← hh, decide_eq_decide, ← D.cnt_pos, hcn]
                omega
              have hdec2 : decide (0 < cn) = h := by
                rw [← hh, decide_eq_decide, ← D.cnt_pos, hcn]
              have cHas := Lib.hid (fun o : On => show Calls Try.prog 27 #[.pointer (some ⟨w.heap.size, 0, none⟩), .agg (nc a)] (ext w9 o) fun e w' => e = .returned (.bool h) ∧ Below (ext w9 o).heap.size (ext w9 o) w' by
                have := has_any _ _ _ _ a _ (hS9.on (ext_below w9 o))
                rw [hh] at this
                exact this)
              have cIn := Lib.hid (fun o : On => show Calls Try.prog 21 #[.slice B2 m9 d2, .agg (nc a)] (ext w9 o) fun e w' => e = .returned (.int .i64 (cn : Nat)) ∧ Below (ext w9 o).heap.size (ext w9 o) w' by
                have := in_any B2 m9 d2 L2 a (ext w9 o) (nrow_ext ho9.to_row o) (by omega)
                rw [hcn] at this
                exact this)
              have fa9 := (act_at B9).2.1
              simp only at fa9
              have gl9 := B9.lt
              clear hh hcn
              refine wp_region_ext (by kernel_rfl) (by kernel_rfl) ?_
              repeat (go_big_quiet_step ((first
                | (go_at_call 26; exact calls_same (cLen.out _))
                | (go_at_call 27; exact calls_ext (cHas.out _))
                | (go_at_call 21; exact calls_ext (cIn.out _)))))
              refine wpQuiet_nil ?_
              intro w10 hw10
              have b10 := ext_to hw10
              clear hw10 cLen cHas cIn fa9 gl9
              have ho10 := ho9.on b10
              have hS10 := hS9.on b10
              have hg10 := hg9.on b10
              have z10 := z9.trans (b10.mono z9.size)
              clear hg9 ho9 hS9 hgot
              go_wp2
              go_loopw [12] (fun i wr3 => ∃ q : Nat, q ≤ m9 ∧ i = .int .i64 q ∧ Below w10.heap.size w10 wr3) (fun i _ => m9 - (intOf i).toNat)
              case atStart => exact ⟨0, Nat.zero_le _, rfl, Below.refl _ _⟩
              case round =>
                obtain ⟨q, hq, rfl, b11⟩ := hrel
                by_cases hql : q < m9
                · obtain ⟨y, hy⟩ := nat_lt (l := L2) (i := q) (by rw [hp2]; exact hql)
                  obtain ⟨a1, hB, hbl1, hr1⟩ := (ho10.to_row.on b11).rd hy
                  obtain ⟨a2, hB2, hbl2, hr2⟩ := (hg10.on b11).rd hy
                  subst hB
                  subst hB2
                  have hbl1' : (a1.add (q * 12)).block < wr.heap.size := by rw [block_of_add]; exact hbl1
                  have hbl2' : (a2.add (q * 12)).block < wr.heap.size := by rw [block_of_add]; exact hbl2
                  have j1 : (q : Int) < (m9 : Int) := by omega
                  have j0 : (0 : Int) ≤ (q : Int) := by omega
                  have hsx : sm y y = true := by simp [sm]
                  go_wp2_with fail
                  refine wp_region_ext (by kernel_rfl) (by kernel_rfl) ?_
                  repeat (go_big_quiet_step (fail))
                  refine wpQuiet_nil ?_
                  intro w12 hw12
                  have b12 := ext_to hw12
                  clear hw12
                  go_wp2
                  go_roundw
                  case rel => exact ⟨q + 1, by omega, by go_num, b11.trans (b12.mono b11.size)⟩
                  case measure => simp [intOf]; omega
                · have j1 : (m9 : Int) ≤ (q : Int) := by omega
                  go_wp2
                  go_roundw
                  case rel => exact ⟨k + 1, B2, m9, d2, M, L2, by omega, by omega, by go_num, rfl, ho10.on b11, hS10.on b11, hH2, hR2, z10.trans (b11.mono z10.size)⟩
                  case measure => simp [intOf]; omega
      · have i1 : (k : Int) < (len : Int) := by omega
        have i2 : (80 : Int) ≤ (k : Int) := by omega
        go_wp2_with (go_at_call 15; (with_reducible refine (known_any _).mono ?_); rintro e w7 ⟨rfl, b7⟩)
        go_ret
        exact ⟨rfl, hb.trans (b7.mono hb.size)⟩
    · have i1 : (len : Int) ≤ (k : Int) := by omega
      go_wp2_with (go_at_call 15; (with_reducible refine (known_any _).mono ?_); rintro e w7 ⟨rfl, b7⟩)
      go_ret
      exact ⟨rfl, hb.trans (b7.mono hb.size)⟩
end Go.Proofs.Ytgfpdfafkimkcaa
