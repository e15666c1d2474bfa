/-
  slices.Sorted, slices.BinarySearch; between.
-/
import Derived.Test.YtcnbdfobhablbaaChh
set_option linter.unusedVariables false
set_option linter.unusedSimpArgs false
set_option maxRecDepth 100000
namespace Go.Proofs.Ytcnbdfobhablbaa
open Go.RowKit Go.Shelf
attribute [local go_sem ↓] Go.wp_at_zero Go.wp_at_succ ld_v lv_v st_v ne_v bd_v bs_v ld_w lv_w st_w ne_w bd_w bs_w ld_r ld_d lv_r lv_d st_r st_d ne_r eq_r ne_d bd_r bd_d
attribute [local go_sem] run_ldv run_lvv run_stv run_nev run_bdv_z run_bdv_d run_bdv_r run_bsv1 run_bsv0 run_ldw run_lvw run_stw run_new run_bdw_3 run_bsw1 run_bsw0 run_ldr run_ldd run_lvr run_lvd run_str run_std run_ner run_eqr run_ned run_bdr0 run_bdd0 run_bdr1 run_bdd1 run_bdd9 Shp.rd_new Shp.rd_old Shp.rd_drew Shp.rd_drewN Shp.rd_set Shp.tn_new Shp.tn_old Shp.tn_drew Shp.tn_drewN setRow_alloc Shp.rd_extk cell_ext
theorem ins_zero (A : Option Addr) (c : Nat) (w : World) : Calls Try.prog 60 #[.slice A 0 c, .int .i64 0, .int .i64 0] w fun e w' => e = .returned (.tuple #[]) ∧ w' = w := by
  go_enter Try.func60, Try.ntmps60
  go_wp2_with fail
  go_loopw [6] (fun x wx => x = .int .i64 1 ∧ wx = w) (fun _ _ => 0)
  case atStart => exact ⟨rfl, rfl⟩
  case round =>
    obtain ⟨rfl, rfl⟩ := hrel
    go_wp2
    go_end0
    exact ⟨rfl, rfl⟩
set_option maxHeartbeats 2000000 in
theorem pdq_any (A : Option Addr) (n c : Nat) (z : Int) (w : World) (R : World → Prop) (hn : n ≤ 12) (HI : Calls Try.prog 60 #[.slice A n c, .int .i64 0, .int .i64 (n : Nat)] w fun e w' => e = .returned (.tuple #[]) ∧ R w') : Calls Try.prog 51 #[.slice A n c, .int .i64 0, .int .i64 (n : Nat), .int .i64 z] w fun e w' => e = .returned (.tuple #[]) ∧ R w' := by
  have CI := Lib.hid HI
  clear HI
  have h12 : (n : Int) ≤ 12 := by omega
  go_enter Try.func51, Try.ntmps51
  go_wp2_with fail
  go_loopw [1, 2, 3] (fun x y v wx => x = .int .i64 0 ∧ y = .int .i64 (n : Nat) ∧ v = .int .i64 z ∧ wx = w) (fun _ _ _ _ => 0)
  case atStart => exact ⟨rfl, rfl, rfl, rfl⟩
  case round =>
    obtain ⟨rfl, rfl, rfl, rfl⟩ := hrel
    go_wp2_with (go_at_call 60; (with_reducible refine CI.out.mono ?_); rintro e w' ⟨rfl, hR⟩)
    refine bodyPost_ret (results_none rfl _ _ _) rfl ?_
    exact ⟨rfl, hR⟩
theorem sort_any (A : Option Addr) (n c : Nat) (w : World) (R : World → Prop) (hn : n ≤ 12) (HI : Calls Try.prog 60 #[.slice A n c, .int .i64 0, .int .i64 (n : Nat)] w fun e w' => e = .returned (.tuple #[]) ∧ R w') : Calls Try.prog 44 #[.slice A n c] w fun e w' => e = .returned (.tuple #[]) ∧ R w' := by
  have CP := Lib.hid (fun z => pdq_any A n c z w R hn HI)
  have CB := Lib.hid (fun (W : World) => Any.bits_Len lays125 (n : Int) W (by omega) (by omega))
  clear HI
  go_enter Try.func44, Try.ntmps44
  go_wp2_with (first
    | (go_at_call 52; refine (CB.out _).mono ?_; rintro e w' ⟨rfl, rfl⟩)
    | (go_at_call 51; refine (CP.out _).mono ?_; rintro e w' ⟨rfl, hR⟩))
  go_end0
  exact ⟨rfl, hR⟩
theorem sort_own {base c : Nat} {A : Option Addr} {xs : List Nat} {w : World} (h : Ow 23 1 base w A xs.length c (wds xs)) (hn : xs.length ≤ 12) : Calls Try.prog 44 #[.slice A xs.length c] w fun e w' => e = .returned (.tuple #[]) ∧ ∃ ys, Row w' A xs.length (wds ys) ∧ Srtd xs ys ∧ Below base w w' ∧ (∀ ad, A = some ad → 0 < xs.length → base ≤ ad.block) := by
  rcases Nat.eq_zero_or_pos xs.length with h0 | h0
  · have hx : xs = [] := List.eq_nil_of_length_eq_zero h0
    subst hx
    have := sort_any A 0 c w (fun w' => w' = w) (by omega) (ins_zero A c w)
    refine this.mono ?_
    rintro e w' ⟨he, rfl⟩
    exact ⟨he, [], Row.nil _ _, ⟨rfl, fun _ => Iff.rfl, fun a b h1 h2 => absurd h2 (by simp)⟩, (Below.refl _ _).mono h.base, fun ad _ h => absurd h (by simp)⟩
  · obtain ⟨g, rfl, hg, hA⟩ := ow_ar h h0
    have := sort_any (some ⟨g, 0, none⟩) xs.length c w (fun w' => ∃ ys, Ar w' g c ys ∧ Srtd xs ys ∧ Only (fun i => i = g) w w') hn (ins_any g xs.length c xs w hA rfl (by omega))
    refine this.mono ?_
    rintro e w' ⟨he, ys, h1, h2, h3⟩
    refine ⟨he, ys, ?_, h2, h3.below h.base (fun i e => by omega), fun ad e _ => by injection e with e; subst e; exact hg⟩
    have := h1.row
    rwa [h2.len] at this
set_option maxHeartbeats 2000000 in
theorem sorted_any (Bp : Nat) (A0 : Option Addr) (m c0 : Nat) (xs : List Nat) (w : World) (hb : w.cell? ⟨Bp, 0, none⟩ = some (.slice A0 m c0)) (hr : Row w A0 m (wds xs)) (hz : m ≤ 12) : Calls Try.prog 33 #[.func (.func 45) #[] #[.pointer (some ⟨Bp, 0, none⟩)]] w fun e w' => ∃ (A : Option Addr) (c : Nat) (ys : List Nat), e = .returned (.slice A xs.length c) ∧ Row w' A xs.length (wds ys) ∧ Srtd xs ys ∧ Below w.heap.size w w' ∧ (∀ ad, A = some ad → 0 < xs.length → w.heap.size ≤ ad.block) := by
  have hlen : xs.length ≤ 12 := by have := hr.len; rw [wds_len] at this; omega
  have CC := Lib.hid (coll_any Bp A0 m c0 xs w hb hr (by omega))
  clear hb hr
  go_enter Try.func33, Try.ntmps33
  go_wp2_with (first
    | (go_at_call 43; (with_reducible refine CC.out.mono ?_); rintro e w1 ⟨A, c, rfl, ho, hb1⟩; have CS := Lib.hid (sort_own ho hlen); have HB1 := Lib.hid hb1; clear ho hb1)
    | (go_at_call 44; (with_reducible refine CS.out.mono ?_); rintro e w2 ⟨rfl, ys, hr2, hs2, hb2, hq2⟩))
  go_ret
  exact ⟨A, c, ys, rfl, hr2, hs2, HB1.out.trans hb2, hq2⟩
/-- Where a number stands among rising ones. -/
structure Bs (ys : List Nat) (x i : Nat) : Prop where
  le : i ≤ ys.length
  lo : ∀ k, k < i → ys.getD k 0 < x
  hi : ∀ k, i ≤ k → k < ys.length → x ≤ ys.getD k 0
theorem Srtd.rise' {xs ys : List Nat} (h : Srtd xs ys) {a b : Nat} (hab : a ≤ b) (hb : b < ys.length) : ys.getD a 0 ≤ ys.getD b 0 := by
  rcases Nat.lt_or_eq_of_le hab with h1 | h1
  · exact h.rise a b h1 hb
  · subst h1; exact Nat.le_refl _
theorem Bs.pin {xs ys : List Nat} (h : Srtd xs ys) {lo hi i : Nat} (hb : Bs ys lo i) : D.pin xs lo hi = (decide (i < ys.length) && decide (ys.getD i 0 < hi)) := by
  rw [Bool.eq_iff_iff, D.pin_iff, Bool.and_eq_true, decide_eq_true_iff, decide_eq_true_iff]
  constructor
  · rintro ⟨p, hp, h1, h2⟩
    obtain ⟨q, hq, rfl⟩ := mem_getD.1 ((h.mem p).2 hp)
    have hiq : i ≤ q := by
      rcases Nat.lt_or_ge q i with hlt | hge
      · have := hb.lo q hlt; omega
      · exact hge
    exact ⟨by omega, Nat.lt_of_le_of_lt (h.rise' hiq hq) h2⟩
  · rintro ⟨h1, h2⟩
    exact ⟨_, (h.mem _).1 (mem_getD.2 ⟨i, h1, rfl⟩), hb.hi i (Nat.le_refl _) h1, h2⟩
set_option maxHeartbeats 4000000 in
theorem bs_any (A : Option Addr) (n c : Nat) (ys : List Nat) (x : Nat) (w : World) (hr : Row w A n (wds ys)) (hs : Rise ys ys.length) (hn : n ≤ 1000) : Calls Try.prog 36 #[.slice A n c, .int .u64 (x : Nat)] w fun e w' => ∃ (i : Nat) (b : Bool), e = .returned (.tuple #[.int .i64 (i : Nat), .bool b]) ∧ Bs ys x i ∧ w' = w := by
  have hlen : Kept (ys.length = n) := ⟨by have := hr.len; rwa [wds_len] at this⟩
  have HS := Lib.hid hs
  have HR := Lib.hid hr
  have CL := Lib.hid (fun a b W => less_any a b W)
  have CN := Lib.hid (fun a W => nan2_any a W)
  clear hs hr
  go_enter Try.func36, Try.ntmps36
  go_wp2_with fail
  go_loopw [7, 8] (fun a b wx => ∃ lo hi : Nat, a = .int .i64 lo ∧ b = .int .i64 hi ∧ lo ≤ hi ∧ hi ≤ n ∧ wx = w ∧ Kept ((∀ k, k < lo → ys.getD k 0 < x) ∧ (∀ k, hi ≤ k → k < ys.length → x ≤ ys.getD k 0))) (fun a b _ => (intOf b).toNat - (intOf a).toNat)
  case atStart => exact ⟨0, n, rfl, rfl, Nat.zero_le _, Nat.le_refl _, rfl, ⟨fun k h => absurd h (by omega), fun k h1 h2 => absurd h2 (by have := hlen.out; omega)⟩⟩
  case round =>
    obtain ⟨lo, hi, rfl, rfl, hlh, hin, rfl, HI⟩ := hrel
    by_cases hlt : lo < hi
    · obtain ⟨y, hy⟩ : ∃ y, ys[(lo + hi) / 2]? = some y := ⟨_, List.getElem?_eq_getElem (by have := hlen.out; omega)⟩
      obtain ⟨ad, rfl, hc⟩ := HR.out.cell (wds_at hy)
      have hyd : Kept (ys.getD ((lo + hi) / 2) 0 = y) := ⟨by simp [List.getD_eq_getElem?_getD, hy]⟩
      clear hy
      by_cases ht : y < x
      · have hd : decide (y < x) = true := decide_eq_true ht
        have HT := Lib.hid ht
        clear ht
        go_wp2_with (go_at_call 46; refine (CL.out _ _ _).mono ?_; rintro e w' ⟨rfl, rfl⟩)
        go_roundw
        case rel => exact ⟨(lo + hi) / 2 + 1, hi, by rw [show ((lo : Int) + (hi : Int)) / 2 + 1 = (((lo + hi) / 2 + 1 : Nat) : Int) by omega], rfl, by omega, hin, trivial, ⟨fun k hk => by
          have h1 : ys.getD k 0 ≤ ys.getD ((lo + hi) / 2) 0 := by
            by_cases e : k = (lo + hi) / 2
            · rw [e]; exact Nat.le_refl _
            · exact HS.out k _ (by omega) (by have := hlen.out; omega)
          have := hyd.out
          have := HT.out
          omega, HI.out.2⟩⟩
        case measure => simp [intOf]; omega
      · have hd : decide (y < x) = false := decide_eq_false ht
        have HT := Lib.hid ht
        clear ht
        go_wp2_with (go_at_call 46; refine (CL.out _ _ _).mono ?_; rintro e w' ⟨rfl, rfl⟩)
        go_roundw
        case rel => exact ⟨lo, (lo + hi) / 2, rfl, by rw [show ((lo : Int) + (hi : Int)) / 2 = (((lo + hi) / 2 : Nat) : Int) by omega], by omega, by omega, trivial, ⟨HI.out.1, fun k hk hk2 => by
          have h1 : ys.getD ((lo + hi) / 2) 0 ≤ ys.getD k 0 := by
            by_cases e : k = (lo + hi) / 2
            · rw [e]; exact Nat.le_refl _
            · exact HS.out _ k (by omega) hk2
          have := hyd.out
          have := HT.out
          omega⟩⟩
        case measure => simp [intOf]; omega
    · obtain rfl : lo = hi := by omega
      have HB : Hid (Bs ys x lo) := ⟨by have := hlen.out; omega, HI.out.1, HI.out.2⟩
      by_cases hn2 : lo < n
      · obtain ⟨y, hy⟩ : ∃ y, ys[lo]? = some y := ⟨_, List.getElem?_eq_getElem (by have := hlen.out; omega)⟩
        obtain ⟨ad, rfl, hc⟩ := HR.out.cell (wds_at hy)
        have i0 : (0 : Int) ≤ (lo : Int) := by omega
        have i1 : (lo : Int) < (n : Int) := by omega
        clear hy
        by_cases he : y = x
        · have hei : (y : Int) = (x : Int) := by omega
          go_wp2_with (go_at_call 47; refine (CN.out _ _).mono ?_; rintro e w' ⟨rfl, rfl⟩)
          go_ret2
          exact ⟨lo, _, rfl, HB.out, rfl⟩
        · have hei : ¬ ((y : Int) = (x : Int)) := by omega
          go_wp2_with (go_at_call 47; refine (CN.out _ _).mono ?_; rintro e w' ⟨rfl, rfl⟩)
          go_ret2
          exact ⟨lo, _, rfl, HB.out, rfl⟩
      · go_wp2
        go_ret2
        exact ⟨lo, _, rfl, HB.out, rfl⟩
/-- What between makes: a closure over the sorted pins. -/
structure Btw (w : World) (base b : Nat) (xs : List Nat) : Prop where
  ex : ∃ (A : Option Addr) (c : Nat) (ys : List Nat), Blk w b 33 #[.slice A xs.length c] ∧ Row w A xs.length (wds ys) ∧ Srtd xs ys ∧ base ≤ b ∧ (∀ ad, A = some ad → 0 < xs.length → base ≤ ad.block)
theorem Btw.on {w w' : World} {base b : Nat} {xs : List Nat} (h : Btw w base b xs) (hb : Below w.heap.size w w') : Btw w' base b xs := by
  obtain ⟨A, c, ys, h1, h2, h3⟩ := h.ex
  exact ⟨A, c, ys, h1.on hb, h2.on hb, h3⟩
theorem Btw.kq {w w' : World} {base b : Nat} {xs : List Nat} {n0 : Nat} {X : List Nat} (h : Btw w base b xs) (hk : Kq n0 X w w') (hX : ∀ q, base ≤ q → q < w.heap.size → q < n0 ∧ q ∉ X) : Btw w' base b xs := by
  obtain ⟨A, c, ys, h1, h2, h3, h4, h5⟩ := h.ex
  have key : ∀ q, base ≤ q → q < w.heap.size → w'.heap[q]? = w.heap[q]? := fun q hq hl => hk.old q (hX q hq hl).1 (hX q hq hl).2
  refine ⟨A, c, ys, ⟨(key b h4 h1.lt).trans h1.out⟩, ⟨h2.len, fun hn => ?_⟩, h3, h4, h5⟩
  obtain ⟨ad, e, hl, hc⟩ := h2.to hn
  exact ⟨ad, e, Nat.lt_of_lt_of_le hl hk.sz, fun j u hu => (World.cell?_of_block (by rw [block_of_add]; exact key _ (h5 ad e hn) hl)).trans (hc j u hu)⟩
set_option maxHeartbeats 2000000 in
theorem btw_any (A0 : Option Addr) (m c0 : Nat) (xs : List Nat) (w : World) (hr : Row w A0 m (wds xs)) (hz : m ≤ 12) : Calls Try.prog 25 #[.slice A0 m c0] w fun e w' => ∃ b : Nat, e = .returned (.func (.func 35) #[] #[.pointer (some ⟨b, 0, none⟩)]) ∧ Btw w' w.heap.size b xs ∧ Below w.heap.size w w' := by
  have CV := Lib.hid (values_any A0 m c0 w)
  have b0 := below_alloc_ w (.cells #[.slice A0 m c0] 33)
  have c1 := (Blk.new w 33 #[.slice A0 m c0]).cell
  obtain ⟨w0, hw0⟩ : ∃ w0, w.alloc (.cells #[.slice A0 m c0] 33) = w0 := ⟨_, rfl⟩
  rw [hw0] at CV b0 c1
  have CS := Lib.hid (sorted_any w.heap.size A0 m c0 xs w0 c1 (hr.on b0) hz)
  have B0 := Lib.hid b0
  clear hr hw0 c1 b0
  go_enter Try.func25, Try.ntmps25
  go_wp2_with (first
    | (go_at_call 34; (with_reducible refine CV.out.mono ?_); rintro e w1 ⟨rfl, rfl⟩)
    | (go_at_call 33; (with_reducible refine CS.out.mono ?_); rintro e w2 ⟨A, c, ys, rfl, hr2, hs2, hb2, hq2⟩))
  go_ret
  refine ⟨w2.heap.size, rfl, ⟨A, c, ys, Blk.new _ _ _, hr2.alloc _, hs2, ?_, fun ad e h => Nat.le_trans B0.out.size (hq2 ad e h)⟩, ?_⟩
  · have := B0.out.size; have := hb2.size; omega
  · exact below_up (below_up B0.out B0.out.size hb2) (below_up B0.out B0.out.size hb2).size (below_alloc_ _ _)
set_option maxHeartbeats 2000000 in
theorem btw1_any (base b : Nat) (xs : List Nat) (lo hi : Nat) (w : World) (h : Btw w base b xs) (hz : xs.length ≤ 1000) : Calls Try.prog 35 #[.int .u64 (lo : Nat), .int .u64 (hi : Nat), .pointer (some ⟨b, 0, none⟩)] w fun e w' => e = .returned (.bool (D.pin xs lo hi)) ∧ w' = w := by
  obtain ⟨A, c, ys, hB, hr, hs, -⟩ := h.ex
  have CB := Lib.hid (bs_any A xs.length c ys lo w hr (by exact hs.rise) hz)
  have HS := Lib.hid hs
  have HR := Lib.hid hr
  have hc := hB.cell
  clear h hB hr hs
  go_enter Try.func35, Try.ntmps35
  go_wp2_with fail
  refine CB.out.mono ?_
  rintro e w1 ⟨i, b2, rfl, hb, rfl⟩
  have HP := Lib.hid (Bs.pin HS.out (hi := hi) hb)
  have hyl := HS.out.len
  by_cases hi1 : i < xs.length
  · obtain ⟨y, hy⟩ : ∃ y, ys[i]? = some y := ⟨_, List.getElem?_eq_getElem (by omega)⟩
    obtain ⟨ad, rfl, hcy⟩ := HR.out.cell (wds_at hy)
    have hd : D.pin xs lo hi = decide (y < hi) := by
      rw [HP.out, decide_eq_true (by omega), Bool.true_and, List.getD_eq_getElem?_getD, hy]; rfl
    have HD := Lib.hid hd
    have i0 : (0 : Int) ≤ (i : Int) := by omega
    have i1 : (i : Int) < (xs.length : Int) := by omega
    clear hd hb hy hyl
    go_wp2
    go_ret
    exact ⟨by rw [HD.out]; simp, rfl⟩
  · have hd : D.pin xs lo hi = false := by
      rw [HP.out, decide_eq_false (by omega)]; rfl
    have HD := Lib.hid hd
    clear hd hb hyl
    go_wp2
    go_ret
    exact ⟨by rw [HD.out]; rfl, rfl⟩
end Go.Proofs.Ytcnbdfobhablbaa
