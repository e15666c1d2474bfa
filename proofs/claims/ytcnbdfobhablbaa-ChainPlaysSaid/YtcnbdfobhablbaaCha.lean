/-
  A chain's versions; what is seen at a time.
-/
import Derived.Test.YtcnbdfobhablbaaChs
import Derived.Test.YtcnbdfobhablbaaCxt
import Derived.Test.YtcnbdfobhablbaaRrk
import Derived.IntWalk
set_option linter.unusedVariables false
set_option linter.unusedSimpArgs false
set_option maxRecDepth 100000
namespace Go.Proofs.Ytcnbdfobhablbaa
open Go.RowKit
attribute [local go_sem ↓] Go.wp_at_zero Go.wp_at_succ ld_v lv_v st_v ne_v bd_v bs_v ld_w lv_w st_w ne_w bd_w bs_w ld_r ld_d lv_r lv_d st_r st_d ne_r eq_r ne_d bd_r bd_d
attribute [local go_sem] run_ldv run_lvv run_stv run_nev run_bdv_z run_bdv_d run_bdv_r run_bsv1 run_bsv0 run_ldw run_lvw run_stw run_new run_bdw_3 run_bsw1 run_bsw0 run_ldr run_ldd run_lvr run_lvd run_str run_std run_ner run_eqr run_ned run_bdr0 run_bdd0 run_bdr1 run_bdd1 run_bdd9 Shp.rd_new Shp.rd_old Shp.rd_drew Shp.rd_drewN Shp.rd_set Shp.tn_new Shp.tn_old Shp.tn_drew Shp.tn_drewN setRow_alloc
theorem all_any (g n c : Nat) (A : Option Addr) (w : World) (h : w.cell? ⟨g, 0, none⟩ = some (.slice A n c)) : Calls Try.prog 31 #[.pointer (some ⟨g, 0, none⟩)] w fun e w' => e = .returned (.slice A n c) ∧ w' = w := by
  go_enter Try.func31, Try.ntmps31
  go_wp2
  go_ret
  exact ⟨rfl, rfl⟩
theorem all_nil (w : World) : Calls Try.prog 31 #[.pointer none] w fun e w' => e = .returned (.slice none 0 0) ∧ w' = w := by
  go_enter Try.func31, Try.ntmps31
  go_wp2
  go_ret
  exact ⟨rfl, rfl⟩
set_option maxHeartbeats 1000000 in
theorem seen1_any (b1 b2 n c t i : Nat) (A : Option Addr) (l : List D.Vn) (v : D.Vn) (w : World) (h1 : w.cell? ⟨b1, 0, none⟩ = some (.slice A n c)) (h2 : w.cell? ⟨b2, 0, none⟩ = some (.int .u64 (t : Nat))) (hr : Shp.Row vS w A n l) (hv : l[i]? = some v) :
    Calls Try.prog 42 #[.int .i64 (i : Nat), .pointer (some ⟨b1, 0, none⟩), .pointer (some ⟨b2, 0, none⟩)] w fun e w' => e = .returned (.bool (decide (t < v.a))) ∧ Below w.heap.size w w' := by
  have hi : (i : Int) < (n : Int) := by have := (List.getElem?_eq_some_iff.1 hv).1; have := hr.len; omega
  have i0 : (0 : Int) ≤ (i : Int) := by omega
  obtain ⟨ad, rfl, hlt, hrd⟩ := hr.rd hv
  obtain ⟨q0, -, -⟩ := vr hrd
  clear hr hv hrd
  go_enter Try.func42, Try.ntmps42
  go_wp2_with fail
  go_quiet (fail)
  go_wp2
  go_ret
  exact ⟨by simp, below_dn (Below.refl _ _) _⟩
set_option maxHeartbeats 2000000 in
theorem search_any (b1 b2 n c t : Nat) (A : Option Addr) (l : List D.Vn) (w : World) (h1 : w.cell? ⟨b1, 0, none⟩ = some (.slice A n c)) (h2 : w.cell? ⟨b2, 0, none⟩ = some (.int .u64 (t : Nat))) (hr : Shp.Row vS w A n l) (hs : D.Srt l) (hn : n ≤ 1000000) :
    Calls Try.prog 41 #[.int .i64 (n : Nat), .func (.func 42) #[] #[.pointer (some ⟨b1, 0, none⟩), .pointer (some ⟨b2, 0, none⟩)]] w fun e w' => e = .returned (.int .i64 (D.cnt l t : Nat)) ∧ Below w.heap.size w w' := by
  have CC := Lib.hid (fun (W : World) (hb : Below w.heap.size w W) i v (hv : l[i]? = some v) => seen1_any b1 b2 n c t i A l v W (cell_kept_ hb h1) (cell_kept_ hb h2) (hr.on hb) hv)
  have HS := Lib.hid hs
  have hlen := hr.len
  clear h1 h2 hr hs
  go_enter Try.func41, Try.ntmps41
  go_wp2_with fail
  go_loopw [5, 6] (fun x y wr => ∃ lo hi : Nat, x = .int .i64 lo ∧ y = .int .i64 hi ∧ lo ≤ hi ∧ hi ≤ n ∧ Below w.heap.size w wr ∧ Kept ((∀ k v, l[k]? = some v → k < lo → v.a ≤ t) ∧ (∀ k v, l[k]? = some v → hi ≤ k → t < v.a))) (fun x y _ => (intOf y).toNat - (intOf x).toNat)
  case atStart => exact ⟨0, n, rfl, rfl, Nat.zero_le _, Nat.le_refl _, Below.refl _ _, ⟨fun k v _ h => absurd h (by omega), fun k v hv h => absurd (List.getElem?_eq_some_iff.1 hv).1 (by omega)⟩⟩
  case round =>
    obtain ⟨lo, hi, rfl, rfl, hlh, hin, hb, HI⟩ := hrel
    by_cases hlt : lo < hi
    · obtain ⟨v, hv⟩ : ∃ v, l[(lo + hi) / 2]? = some v := ⟨_, List.getElem?_eq_getElem (by omega)⟩
      have C1 := CC.out wr hb _ v hv
      rw [show (((lo + hi) / 2 : Nat) : Int) = ((lo : Int) + (hi : Int)) / 2 by omega] at C1
      have HV := Lib.hid hv
      clear hv
      by_cases ht : t < v.a
      · rw [decide_eq_true ht] at C1
        have HT := Lib.hid ht
        clear ht
        go_wp2_with (go_at_call 42; (refine C1.mono ?_); rintro e w1 ⟨rfl, b1⟩)
        go_roundw
        case rel => exact ⟨lo, (lo + hi) / 2, rfl, by rw [show ((lo : Int) + (hi : Int)) / 2 = (((lo + hi) / 2 : Nat) : Int) by omega], by omega, by omega, below_up hb hb.size b1, ⟨HI.out.1, fun k u hu hk => by
          by_cases e : (lo + hi) / 2 = k
          · subst e; have := HV.out.symm.trans hu; injection this with this; subst this; exact HT.out
          · have := HS.out.lt HV.out hu (by omega); have := HT.out; omega⟩⟩
        case measure => simp [intOf]; omega
      · rw [decide_eq_false ht] at C1
        have HT := Lib.hid ht
        clear ht
        go_wp2_with (go_at_call 42; (refine C1.mono ?_); rintro e w1 ⟨rfl, b1⟩)
        go_roundw
        case rel => exact ⟨(lo + hi) / 2 + 1, hi, by rw [show ((lo : Int) + (hi : Int)) / 2 + 1 = (((lo + hi) / 2 + 1 : Nat) : Int) by omega], rfl, by omega, hin, below_up hb hb.size b1, ⟨fun k u hu hk => by
          by_cases e : (lo + hi) / 2 = k
          · subst e; have := HV.out.symm.trans hu; injection this with this; subst this; have := HT.out; omega
          · have := HS.out.lt hu HV.out (by omega); have := HT.out; omega, HI.out.2⟩⟩
        case measure => simp [intOf]; omega
    · obtain rfl : lo = hi := by omega
      have he := D.cnt_is (l := l) (t := t) (i := lo) (by omega) HI.out.1 HI.out.2
      go_wp2
      go_ret
      exact ⟨by rw [he]; rfl, hb⟩
/-- A pointer to a chain of these versions, or nil. -/
structure Al (w : World) (p A : Option Addr) (n c : Nat) (l : List D.Vn) : Prop where
  all : ∀ W, Below w.heap.size w W → Calls Try.prog 31 #[.pointer p] W fun e w' => e = .returned (.slice A n c) ∧ w' = W
  row : Shp.Row vS w A n l
  srt : D.Srt l
  le : n ≤ 1000000
theorem Al.on {w w' : World} {p A : Option Addr} {n c : Nat} {l : List D.Vn} (h : Al w p A n c l) (hb : Below w.heap.size w w') : Al w' p A n c l := ⟨fun W hW => h.all W (below_up hb hb.size hW), h.row.on hb, h.srt, h.le⟩
theorem Al.nil (w : World) : Al w none none 0 0 [] := ⟨fun W _ => all_nil W, Shp.Row.nil _ _, D.Srt.nil, Nat.zero_le _⟩
theorem Al.of {w : World} {g n c : Nat} {A : Option Addr} {l : List D.Vn} (h : w.cell? ⟨g, 0, none⟩ = some (.slice A n c)) (hr : Shp.Row vS w A n l) (hs : D.Srt l) (hn : n ≤ 1000000) : Al w (some ⟨g, 0, none⟩) A n c l :=
  ⟨fun W hW => all_any g n c A W (cell_kept_ hW h), hr, hs, hn⟩
set_option maxHeartbeats 2000000 in
theorem seen_any {w : World} {p : Option Addr} {A : Option Addr} {n c : Nat} {l : List D.Vn} (h : Al w p A n c l) (t : Nat) :
    Calls Try.prog 30 #[.pointer p, .int .u64 (t : Nat)] w fun e w' => e = .returned (.agg (vS.v (D.seen l t))) ∧ Below w.heap.size w w' := by
  have hr := h.row
  have hs := h.srt
  have hn := h.le
  have HA := Lib.hid h.all
  have HS := Lib.hid hs
  have hlen := hr.len
  go_enter Try.func30, Try.ntmps30
  go_wp2_with fail
  have z0 : Below w.heap.size w ((w.alloc (.cells #[.int .u64 (t : Nat)] 23)).alloc (.cells #[.int .u64 0, .bool false, .int .u8 0, .int .u8 0, .int .u8 0, .int .u8 0, .int .u8 0, .bool false, .int .u32 0, .int .u64 0, .string ⟨#[]⟩] 32)) := ((Below.refl _ _).alloc (Nat.le_refl _) _).alloc (by simp) _
  have f1 : ((w.alloc (.cells #[.int .u64 (t : Nat)] 23)).alloc (.cells #[.int .u64 0, .bool false, .int .u8 0, .int .u8 0, .int .u8 0, .int .u8 0, .int .u8 0, .bool false, .int .u32 0, .int .u64 0, .string ⟨#[]⟩] 32)).cell? ⟨w.heap.size, 0, none⟩ = some (.int .u64 (t : Nat)) := ((Blk.new w _ _).alloc _).cell
  have f2 : Shp.tn 11 ((w.alloc (.cells #[.int .u64 (t : Nat)] 23)).alloc (.cells #[.int .u64 0, .bool false, .int .u8 0, .int .u8 0, .int .u8 0, .int .u8 0, .int .u8 0, .bool false, .int .u32 0, .int .u64 0, .string ⟨#[]⟩] 32)) (w.heap.size + 1) = true := Shp.tn_new _ _ _ _ _ (by simp) rfl
  generalize (w.alloc (.cells #[.int .u64 (t : Nat)] 23)).alloc (.cells #[.int .u64 0, .bool false, .int .u8 0, .int .u8 0, .int .u8 0, .int .u8 0, .int .u8 0, .bool false, .int .u32 0, .int .u64 0, .string ⟨#[]⟩] 32) = W0 at z0 f1 f2 ⊢
  refine (HA.out W0 z0).mono ?_
  rintro e w1 ⟨rfl, rfl⟩
  have hB := Blk.new w1 24 #[.slice A n c]
  have z1 := below_alloc_ w1 (.cells #[.slice A n c] 24)
  obtain ⟨W1, hW1⟩ : ∃ W1, w1.alloc (.cells #[.slice A n c] 24) = W1 := ⟨_, rfl⟩
  rw [hW1] at hB z1
  have CS := Lib.hid (search_any w1.heap.size w.heap.size n c t A l W1 hB.cell (cell_kept_ z1 f1) ((hr.on z0).on z1) hs hn)
  have hZ := Lib.hid (z0.trans (z1.mono z0.size))
  have f3 := Shp.tn_on f2 z1
  have c1 := hB.cell
  have hr1 := (hr.on z0).on z1
  clear hr h hB z0 z1 f1 f2
  have hcl := D.cnt_le l t
  by_cases hc : D.cnt l t = 0
  · rw [hc] at CS
    have HE := Lib.hid (D.seen_0 hc)
    clear hr1
    go_wp2_with (go_at_call 41; (with_reducible refine CS.out.mono ?_); rintro e w2 ⟨rfl, b2⟩; have f4 := Shp.tn_on f3 b2)
    refine bodyPost_ret (v := .agg (vS.v (D.dd 0))) (by rw [results_cell1 rfl]; simp [asAddr, Result.andThen, lvv_of (Shp.rd_set (S := vS) w2 (w.heap.size + 1) (D.dd 0) f4)]) rfl ⟨by rw [HE.out], ?_⟩
    exact bel_setRow (below_up hZ.out hZ.out.size b2) (by omega) _
  · obtain ⟨v, hv, he, -⟩ := D.seen_mem hc
    have HE := Lib.hid he
    have i0 : ¬ ((D.cnt l t : Int) = 0) := by omega
    have i1 : (0 : Int) ≤ (D.cnt l t : Int) - 1 := by omega
    have i2 : (D.cnt l t : Int) - 1 < (n : Int) := by omega
    have i3 : (((D.cnt l t - 1 : Nat)) : Int) = (D.cnt l t : Int) - 1 := by omega
    obtain ⟨k, hk⟩ : ∃ k, D.cnt l t = k + 1 := ⟨D.cnt l t - 1, by omega⟩
    obtain ⟨ad, rfl, hlt, hrd⟩ := hr1.rd hv
    rw [hk, Nat.add_sub_cancel] at hrd
    have HRD := Lib.hid hrd
    rw [hk] at CS hcl
    have j1 : (k : Int) < (n : Int) := by omega
    clear hr1 hrd i0 i1 i2 i3 he hv
    go_wp2_with (go_at_call 41; (with_reducible refine CS.out.mono ?_); rintro e w2 ⟨rfl, b2⟩; have f4 := Shp.tn_on f3 b2; have c2 := cell_kept_ b2 c1; have r2 : vS.rd w2 (ad.add (k * 11)) = some v := Shp.rd_on HRD.out b2)
    refine bodyPost_ret (v := .agg (vS.v v)) (by rw [results_cell1 rfl]; simp [asAddr, Result.andThen, lvv_of (Shp.rd_set (S := vS) w2 (w.heap.size + 1) v f4)]) rfl ⟨by rw [HE.out], ?_⟩
    exact bel_setRow (below_up hZ.out hZ.out.size b2) (by omega) _
end Go.Proofs.Ytcnbdfobhablbaa
