/-
  The law of Sort and Count: its walk.
-/
import Derived.Test.YtgfpdfafkimkcaaInsr
import Derived.Test.YtgfpdfafkimkcaaCount
import Derived.Test.YtgfpdfafkimkcaaTextsWalk
set_option linter.unusedVariables false
set_option linter.unusedSimpArgs false
namespace Go.Proofs.Ytgfpdfafkimkcaa
open Go.RowKit Go.Sort
attribute [local go_sem ↓] Go.wp_at_zero Go.wp_at_succ ld_a ld_n st_a st_n eq_a eq_n ne_a ne_n bsl_a bsl_n lv_a lv_n
attribute [local go_sem] run_ld_a run_ld_n run_st_n run_eq_a run_eq_n run_ne_a run_ne_n run_bsl1_a run_bsl1_n run_bsl2 run_lv_a run_lv_n st_z ne_z rd_new rd_old rd_drew rd_drewN rd_ext

theorem want_len_le (l : List D.Nm) : (D.want l).length ≤ l.length := by
  rw [(D.want_perm l).length_eq]
  exact List.length_filter_le _ _
theorem want_all {l : List D.Nm} {k : Nat} (h : l.length ≤ k) : D.want (l.take k) = D.want l := by rw [List.take_of_length_le h]

set_option maxRecDepth 100000 in
set_option maxHeartbeats 1000000 in
theorem sorts_all (A : Option Addr) (len cap : Nat) (l0 : List D.Nm) (w : World) (hrow : NRow w A len l0) (hcap : len ≤ cap) (hmax : cap ≤ maxLen) :
    Calls Try.prog 5 #[.slice A len cap] w fun e w' => e = .returned (.bool true) ∧ Below w.heap.size w w' := by
  obtain ⟨m, hm1, hm2, hmin⟩ := min_run len 40 40 rfl
  have hcut := upto_n 37 (.inr rfl) A len cap m (by omega)
  have hl := hrow.take hm1
  obtain ⟨L, hL⟩ : ∃ L, l0.take m = L := ⟨_, rfl⟩
  rw [hL] at hl
  clear hL hrow hmax
  go_enter Try.func5, Try.ntmps5
  go_wp2
  clear hcut hmin
  go_loopw [3, 4] (fun s i wr => ∃ (k : Nat) (B : Option Addr) (p d : Nat), k ≤ m ∧ i = .int .i64 k ∧ s = .slice B p d ∧ p ≤ k ∧ NOwn w.heap.size 22 wr B p d (D.want (L.take k)) ∧ Below w.heap.size w wr) (fun _ i _ => m - (intOf i).toNat)
  case atStart => exact ⟨0, none, 0, 0, Nat.zero_le _, rfl, rfl, Nat.le_refl _, NOwn.nil (Nat.le_refl _), Below.refl _ _⟩
  case round =>
    obtain ⟨k, B, p, d, hk, rfl, rfl, hpk, ho, hb⟩ := hrel
    by_cases hlt : k < m
    · obtain ⟨x, hx⟩ := nat_lt (l := L) (i := k) (by rw [hl.len]; exact hlt)
      obtain ⟨ad, rfl, hadl, hr⟩ := (hl.on hb).rd hx
      have HN := D.want_next hx
      obtain ⟨K, hK⟩ : ∃ K, D.want (L.take k) = K := ⟨_, rfl⟩
      rw [hK] at ho HN
      have i1 : (k : Int) < (m : Int) := by omega
      have i0 : (0 : Int) ≤ (k : Int) := by omega
      have hr2 : rd wr (ad.add (k * 12)) = some x := hr
      have HT := ref_text x
      clear hK hx
      cases hrt : D.right x
      · rw [ts_no hrt] at HT
        have CT := Lib.hid HT
        have HN2 : Kept (D.want (L.take (k + 1)) = K) := ⟨by rw [HN, hrt]; rfl⟩
        clear HT hrt HN
        go_wp2_with (go_at_call 14; (with_reducible refine (CT.out _).mono ?_); rintro e w2 ⟨rfl, b2⟩)
        go_roundw
        case rel => exact ⟨k + 1, B, p, d, by omega, by go_num, rfl, by omega, by rw [HN2.out]; exact ho.on b2, hb.trans (b2.mono hb.size)⟩
        case measure => simp [intOf]; omega
      · have ht := not_empty (ts_yes hrt)
        obtain ⟨t, htt⟩ : ∃ t, ts x = t := ⟨_, rfl⟩
        rw [htt] at HT ht
        have CT := Lib.hid HT
        have HN2 : Kept (D.want (L.take (k + 1)) = D.ins K x) := ⟨by rw [HN, hrt]; rfl⟩
        clear HT hrt HN htt
        go_wp2_with (first
          | (go_at_call 14; (with_reducible refine (CT.out _).mono ?_); rintro e w2 ⟨rfl, b2⟩; have ho2 := ho.on b2; have hr3 := rd_on hr2 b2)
          | (go_at_call 18; (with_reducible refine (insert_any _ _ _ _ x _ ho2.to_row ho2.cap.1 (by omega)).mono ?_); rintro e w3 ⟨B3, p3, d3, rfl, ho3, b3⟩))
        have bb := hb.trans (b2.mono hb.size)
        have hp3 := ho3.len
        rw [D.ins_len, ho.len] at hp3
        go_roundw
        case rel => exact ⟨k + 1, B3, p3, d3, by omega, by go_num, rfl, by omega, by rw [HN2.out]; exact ho3.low bb.size, bb.trans (b3.mono bb.size)⟩
        case measure => simp [intOf]; omega
    · have i1 : (m : Int) ≤ (k : Int) := by omega
      rw [want_all (by rw [hl.len]; omega)] at ho
      have HG := D.want_srt L
      have HP := D.want_perm L
      have hq := want_len_le L
      rw [hl.len] at hq
      have hl1 := hl.on hb
      have hp0 := ho.len
      have HD : Kept (D.dist (L.filter D.right) = D.kinds (D.want L) p) := ⟨by
        rw [D.kinds_dist HG p (by omega), List.take_of_length_le (by omega)]
        exact (D.dist_perm HP).symm⟩
      have HC : Hid (∀ x, D.cnt (D.want L) x = D.cnt (L.filter D.right) x) := fun x => D.cnt_perm HP x
      obtain ⟨G, hG⟩ : ∃ G, D.want L = G := ⟨_, rfl⟩
      obtain ⟨R, hR⟩ : ∃ R, L.filter D.right = R := ⟨_, rfl⟩
      have cS := Lib.hid (fun W h => sorted_any A m cap L W h (by omega))
      have cC := Lib.hid (fun W h => count_any A m cap L W h (by omega))
      rw [hG] at ho hp0 HD HC hq cS
      rw [hR] at HD HC cC
      clear hG hR HG HP hl
      go_wp2_with (first
        | (go_at_call 19; (with_reducible refine (cS.out _ hl1).mono ?_); rintro e w2 ⟨B2, p2, d2, rfl, ho2, b2⟩; have hl2 := hl1.on b2; have hw2 := ho.on b2; have z2 := hb.trans (b2.mono hb.size); have hp2 := ho2.len; obtain rfl : p2 = p := hp2.symm.trans hp0)
        | (go_at_call 20; (with_reducible refine (cC.out _ hl2).mono ?_); rintro e w3 ⟨b, rfl, hb3, hc3, b3⟩; have hw3 := (hw2.on b3).to_row; have hg3 := (ho2.on b3).to_row; have z3 := z2.trans (b3.mono z2.size)))
      clear cS cC hl1 hl2 hw2 ho2 ho b2 b3
      have hp40 : p2 ≤ 40 := by omega
      clear hq hp0 hp2
      go_loopw [7, 8] (fun t i wr => ∃ (j q : Nat), j ≤ p2 ∧ i = .int .i64 j ∧ t = .int .i64 q ∧ q ≤ j ∧ Kept (D.kinds G j = q) ∧ Below w3.heap.size w3 wr) (fun _ i _ => p2 - (intOf i).toNat)
      case atStart => exact ⟨0, 0, Nat.zero_le _, rfl, rfl, Nat.le_refl _, ⟨rfl⟩, Below.refl _ _⟩
      case round =>
        obtain ⟨j, q, hj, rfl, rfl, hqj, HQ, b4⟩ := hrel
        by_cases hjl : j < p2
        · obtain ⟨x, hx⟩ := nat_lt (l := G) (i := j) (by rw [hw3.len]; exact hjl)
          have hw4 := hw3.on b4
          have hg4 := hg3.on b4
          have hc4 := hc3.on b4
          obtain ⟨a1, hB, hbl1, hr1⟩ := hw4.rd hx
          obtain ⟨a2, rfl, hbl2, hr2⟩ := hg4.rd hx
          have hbl1' : (a1.add (j * 12)).block < wr.heap.size := by rw [block_of_add]; exact hbl1
          have hbl2' : (a2.add (j * 12)).block < wr.heap.size := by rw [block_of_add]; exact hbl2
          have i1' : (j : Int) < (p2 : Int) := by omega
          have i0' : (0 : Int) ≤ (j : Int) := by omega
          have hlk := fun o : On => (hc4.on (ext_below wr o)).look x
          have cI := Lib.hid (fun o : On => in_any B p2 d G x (ext wr o) (nrow_ext hw4 o) (by omega))
          have hcx := HC.out x
          rw [hcx] at cI
          obtain ⟨cn, hcn⟩ : ∃ cn, D.cnt R x = cn := ⟨_, rfl⟩
          rw [hcn] at cI hlk
          clear hcx hcn
          subst hB
          have hsx : sm x x = true := by simp [sm]
          have HK := D.kinds_next G j
          rw [HQ.out] at HK
          clear HC
          go_wp2_with fail
          refine wp_region_ext (by kernel_rfl) (by kernel_rfl) ?_
          repeat (go_big_quiet_step ((first | (go_at_call 21; exact calls_ext (cI.out _)))))
          refine wpQuiet_nil ?_
          intro w5 hw5
          have b5 := ext_to hw5
          clear hw5 hlk cI
          have z5 := b4.trans (b5.mono b4.size)
          by_cases hj0 : j = 0
          · have e0 : ((j : Int) == 0) = true := by simp [hj0]
            have HK2 : Kept (D.kinds G (j + 1) = q + 1) := ⟨by rw [HK, if_pos (.inl hj0)]⟩
            clear HK HQ HD hx hj0
            go_wp2_with fail
            refine wp_region_ext (by kernel_rfl) (by kernel_rfl) ?_
            repeat (go_big_quiet_step (fail))
            refine wpQuiet_nil ?_
            intro w6 hw6
            have b6 := ext_to hw6
            clear hw6
            go_wp2
            go_roundw
            case rel => exact ⟨j + 1, q + 1, by omega, by go_num, by go_num, by omega, HK2, z5.trans (b6.mono z5.size)⟩
            case measure => simp [intOf]; omega
          · obtain ⟨j1, hj1⟩ : ∃ j1, j = j1 + 1 := ⟨j - 1, by omega⟩
            have e0 : ((j : Int) == 0) = false := by rw [beq_eq_false_iff_ne]; omega
            have e1 : (j : Int) - 1 = (j1 : Int) := by omega
            obtain ⟨y, hy⟩ := nat_lt (l := G) (i := j1) (by rw [hw3.len]; omega)
            obtain ⟨a3, hB3, hbl3, hr3⟩ := hg4.rd hy
            injection hB3 with hB3
            subst hB3
            have hr5 := rd_on hr2 b5
            have hr6 := rd_on hr3 b5
            have hbl5 := rd_lt hr5
            have hbl6 := rd_lt hr6
            have k1' : (j1 : Int) < (p2 : Int) := by omega
            have k0' : (0 : Int) ≤ (j1 : Int) := by omega
            rw [hx, show j - 1 = j1 by omega, hy] at HK
            cases hs : sm x y
            · have HK2 : Kept (D.kinds G (j + 1) = q + 1) := ⟨by rw [HK, if_pos (.inr (by simpa [sm] using hs))]⟩
              clear HK HQ HD hx hj0 hy hj1 hr1 hr2 hr3
              go_wp2_with fail
              refine wp_region_ext (by kernel_rfl) (by kernel_rfl) ?_
              repeat (go_big_quiet_step (fail))
              refine wpQuiet_nil ?_
              intro w6 hw6
              have b6 := ext_to hw6
              clear hw6
              go_wp2
              go_roundw
              case rel => exact ⟨j + 1, q + 1, by omega, by go_num, by go_num, by omega, HK2, z5.trans (b6.mono z5.size)⟩
              case measure => simp [intOf]; omega
            · have HK2 : Kept (D.kinds G (j + 1) = q) := ⟨by rw [HK, if_neg (by simp [sm] at hs; simp [hs, hj0]), Nat.add_zero]⟩
              clear HK HQ HD hx hj0 hy hj1 hr1 hr2 hr3
              go_wp2_with fail
              refine wp_region_ext (by kernel_rfl) (by kernel_rfl) ?_
              repeat (go_big_quiet_step (fail))
              refine wpQuiet_nil ?_
              intro w6 hw6
              have b6 := ext_to hw6
              clear hw6
              go_wp2
              go_roundw
              case rel => exact ⟨j + 1, q, by omega, by go_num, rfl, by omega, HK2, z5.trans (b6.mono z5.size)⟩
              case measure => simp [intOf]; omega
        · have i1' : (p2 : Int) ≤ (j : Int) := by omega
          obtain rfl : j = p2 := by omega
          have hc4 := hc3.on b4
          rw [HQ.out] at HD
          go_wp2_with (go_at_call 15; (with_reducible refine (known_any _).mono ?_); rintro e w7 ⟨rfl, b7⟩; have hlen := (hc4.on b7).len; rw [HD.out] at hlen)
          go_ret
          exact ⟨rfl, (z3.trans (b4.mono z3.size)).trans (b7.mono (Nat.le_trans z3.size b4.size))⟩
end Go.Proofs.Ytgfpdfafkimkcaa
