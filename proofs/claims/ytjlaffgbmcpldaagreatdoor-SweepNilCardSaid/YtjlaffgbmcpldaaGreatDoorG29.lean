/-
  
-/
import Derived.Test.YtjlaffgbmcpldaaGreatDoorG28
set_option linter.unusedVariables false
set_option linter.unusedSimpArgs false
set_option maxRecDepth 100000
namespace Go.Proofs.YtjlaffgbmcpldaaGreatDoor
open Go.RowKit Go.Shelf
attribute [local go_sem ↓] Go.wp_at_zero Go.wp_at_succ ld_v lv_v st_v ne_v bd_v bs_v ld_w lv_w st_w ne_w bd_w bs_w ld_rh ld_d lv_rh lv_d st_r st_d ne_rh eq_rh ne_d bd_rh bd_d
attribute [local go_sem] run_ldv run_lvv run_stv run_nev run_bdv_z run_bdv_d run_bdv_r run_bsv1 run_bsv0 run_ldw run_lvw run_stw run_new run_bdw_3 run_bsw1 run_bsw0 run_ldrh run_ldd run_lvrh run_lvd run_str run_std run_nerh run_eqrh run_ned run_bdr0 run_bdd0 run_bdr1 run_bdd1 run_bdd9 Shp.rd_new Shp.rd_old Shp.rd_drew Shp.rd_drewN Shp.rd_set Shp.tn_new Shp.tn_old Shp.tn_drew Shp.tn_drewN setRow_alloc Shp.rd_extk cell_ext
theorem ins_zero (A : Option Addr) (c : Nat) (w : World) : Calls Tryz.prog 166 #[.slice A 0 c, .int .i64 0, .int .i64 0] w fun e w' => e = .returned (.tuple #[]) ∧ w' = w := by
 go_enter Tryz.func166, Tryz.ntmps166
 go_wp2_with fail
 go_loopw [6] (fun x wx => x = .int .i64 1 ∧ wx = w) (fun _ _ => 0)
 case atStart => exact ⟨rfl, rfl⟩
 case round =>
  obtain ⟨rfl, rfl⟩ := hrel
  go_wp2
  go_end0
  exact ⟨rfl, rfl⟩
set_option maxHeartbeats 2000000 in
theorem pdq_any (A : Option Addr) (n c : Nat) (z : Int) (w : World) (R : World → Prop) (hn : n ≤ 12) (HI : Calls Tryz.prog 166 #[.slice A n c, .int .i64 0, .int .i64 (n : Nat)] w fun e w' => e = .returned (.tuple #[]) ∧ R w') : Calls Tryz.prog 141 #[.slice A n c, .int .i64 0, .int .i64 (n : Nat), .int .i64 z] w fun e w' => e = .returned (.tuple #[]) ∧ R w' := by
 have CI := Lib.hid HI
 clear HI
 have h12 : (n : Int) ≤ 12 := by omega
 go_enter Tryz.func141, Tryz.ntmps141
 go_wp2_with fail
 go_loopw [1, 2, 3] (fun x y v wx => x = .int .i64 0 ∧ y = .int .i64 (n : Nat) ∧ v = .int .i64 z ∧ wx = w) (fun _ _ _ _ => 0)
 case atStart => exact ⟨rfl, rfl, rfl, rfl⟩
 case round =>
  obtain ⟨rfl, rfl, rfl, rfl⟩ := hrel
  go_wp2_with (go_at_call 166; (with_reducible refine CI.out.mono ?_); rintro e w' ⟨rfl, hR⟩)
  refine bodyPost_ret (results_none rfl _ _ _) rfl ?_
  exact ⟨rfl, hR⟩
theorem sort_any (A : Option Addr) (n c : Nat) (w : World) (R : World → Prop) (hn : n ≤ 12) (HI : Calls Tryz.prog 166 #[.slice A n c, .int .i64 0, .int .i64 (n : Nat)] w fun e w' => e = .returned (.tuple #[]) ∧ R w') : Calls Tryz.prog 112 #[.slice A n c] w fun e w' => e = .returned (.tuple #[]) ∧ R w' := by
 have CP := Lib.hid (fun z => pdq_any A n c z w R hn HI)
 have CB := Lib.hid (fun (W : World) => Any.bits_Len lays125 (n : Int) W (by omega) (by omega))
 clear HI
 go_enter Tryz.func112, Tryz.ntmps112
 go_wp2_with (first
  | (go_at_call 142; refine (CB.out _).mono ?_; rintro e w' ⟨rfl, rfl⟩)
  | (go_at_call 141; refine (CP.out _).mono ?_; rintro e w' ⟨rfl, hR⟩))
 go_end0
 exact ⟨rfl, hR⟩
theorem sort_own {base c : Nat} {A : Option Addr} {xs : List Nat} {w : World} (h : Ow 42 1 base w A xs.length c (wds xs)) (hn : xs.length ≤ 12) : Calls Tryz.prog 112 #[.slice A xs.length c] w fun e w' => e = .returned (.tuple #[]) ∧ ∃ ys, Row w' A xs.length (wds ys) ∧ Srtd xs ys ∧ Below base w w' ∧ (∀ ad, A = some ad → 0 < xs.length → base ≤ ad.block) := by
 rcases Nat.eq_zero_or_pos xs.length with h0 | h0
 ·have hx : xs = [] := List.eq_nil_of_length_eq_zero h0
  subst hx
  have := sort_any A 0 c w (fun w' => w' = w) (by omega) (ins_zero A c w)
  refine this.mono ?_
  rintro e w' ⟨he, rfl⟩
  exact ⟨he, [], Row.nil _ _, ⟨rfl, fun _ => Iff.rfl, fun a b h1 h2 => absurd h2 (by simp)⟩, (Below.refl _ _).mono h.base, fun ad _ h => absurd h (by simp)⟩
 ·obtain ⟨g, rfl, hg, hA⟩ := ow_ar h h0
  have := sort_any (some ⟨g, 0, none⟩) xs.length c w (fun w' => ∃ ys, Ar w' g c ys ∧ Srtd xs ys ∧ Only (fun i => i = g) w w') hn (ins_any g xs.length c xs w hA rfl (by omega))
  refine this.mono ?_
  rintro e w' ⟨he, ys, h1, h2, h3⟩
  refine ⟨he, ys, ?_, h2, h3.below h.base (fun i e => by omega), fun ad e _ => by injection e with e; subst e; exact hg⟩
  have := h1.row
  rwa [h2.len] at this
def SOk (xs : List Nat) : Prop := ∀ (base c : Nat) (A : Option Addr) (w : World), Ow 42 1 base w A xs.length c (wds xs) → (Calls Tryz.prog 112 #[.slice A xs.length c] w fun e w' => e = .returned (.tuple #[]) ∧ ∃ ys, Row w' A xs.length (wds ys) ∧ Srtd xs ys ∧ Below base w w' ∧ (∀ ad, A = some ad → 0 < xs.length → base ≤ ad.block))
theorem SOk.small {xs : List Nat} (hn : xs.length ≤ 12) : SOk xs := fun _ _ _ _ h => sort_own h hn
set_option maxHeartbeats 2000000 in
theorem sorted_any (Bp : Nat) (A0 : Option Addr) (m c0 : Nat) (xs : List Nat) (w : World) (hb : w.cell? ⟨Bp, 0, none⟩ = some (.slice A0 m c0)) (hr : Row w A0 m (wds xs)) (hz : m ≤ 1000) (hso : SOk xs) : Calls Tryz.prog 75 #[.func (.func 218) #[] #[.pointer (some ⟨Bp, 0, none⟩)]] w fun e w' => ∃ (A : Option Addr) (c : Nat) (ys : List Nat), e = .returned (.slice A xs.length c) ∧ Row w' A xs.length (wds ys) ∧ Srtd xs ys ∧ Below w.heap.size w w' ∧ (∀ ad, A = some ad → 0 < xs.length → w.heap.size ≤ ad.block) := by
 have HSO := Lib.hid hso
 have hlen : xs.length ≤ 1000 := by have := hr.len; rw [wds_len] at this; omega
 have CC := Lib.hid (coll_any Bp A0 m c0 xs w hb hr (by omega))
 clear hb hr
 go_enter Tryz.func75, Tryz.ntmps75
 go_wp2_with (first
  | (go_at_call 111; (with_reducible refine CC.out.mono ?_); rintro e w1 ⟨A, c, rfl, ho, hb1⟩; have CS := Lib.hid (HSO.out _ _ _ _ ho); have HB1 := Lib.hid hb1; clear ho hb1)
  | (go_at_call 112; (with_reducible refine CS.out.mono ?_); rintro e w2 ⟨rfl, ys, hr2, hs2, hb2, hq2⟩))
 go_ret
 exact ⟨A, c, ys, rfl, hr2, hs2, HB1.out.trans hb2, hq2⟩
structure Bs (ys : List Nat) (x i : Nat) : Prop where
 le : i ≤ ys.length
 lo : ∀ k, k < i → ys.getD k 0 < x
 hi : ∀ k, i ≤ k → k < ys.length → x ≤ ys.getD k 0
theorem Srtd.rise' {xs ys : List Nat} (h : Srtd xs ys) {a b : Nat} (hab : a ≤ b) (hb : b < ys.length) : ys.getD a 0 ≤ ys.getD b 0 := by
 rcases Nat.lt_or_eq_of_le hab with h1 | h1
 ·exact h.rise a b h1 hb
 ·subst h1; exact Nat.le_refl _
theorem Bs.pin {xs ys : List Nat} (h : Srtd xs ys) {lo hi i : Nat} (hb : Bs ys lo i) : D.pin xs lo hi = (decide (i < ys.length) && decide (ys.getD i 0 < hi)) := by
 rw [Bool.eq_iff_iff, D.pin_iff, Bool.and_eq_true, decide_eq_true_iff, decide_eq_true_iff]
 constructor
 ·rintro ⟨p, hp, h1, h2⟩
  obtain ⟨q, hq, rfl⟩ := mem_getD.1 ((h.mem p).2 hp)
  have hiq : i ≤ q := by
   rcases Nat.lt_or_ge q i with hlt | hge
   ·have := hb.lo q hlt; omega
   ·exact hge
  exact ⟨by omega, Nat.lt_of_le_of_lt (h.rise' hiq hq) h2⟩
 ·rintro ⟨h1, h2⟩
  exact ⟨_, (h.mem _).1 (mem_getD.2 ⟨i, h1, rfl⟩), hb.hi i (Nat.le_refl _) h1, h2⟩
set_option maxHeartbeats 4000000 in
theorem bs_any (A : Option Addr) (n c : Nat) (ys : List Nat) (x : Nat) (w : World) (hr : Row w A n (wds ys)) (hs : Rise ys ys.length) (hn : n ≤ 1000) : Calls Tryz.prog 203 #[.slice A n c, .int .u64 (x : Nat)] w fun e w' => ∃ (i : Nat) (b : Bool), e = .returned (.tuple #[.int .i64 (i : Nat), .bool b]) ∧ Bs ys x i ∧ w' = w := by
 have hlen : Kept (ys.length = n) := ⟨by have := hr.len; rwa [wds_len] at this⟩
 have HS := Lib.hid hs
 have HR := Lib.hid hr
 have CL := Lib.hid (fun a b W => less_any a b W)
 have CN := Lib.hid (fun a W => nan2_any a W)
 clear hs hr
 go_enter Tryz.func203, Tryz.ntmps203
 go_wp2_with fail
 go_loopw [7, 8] (fun a b wx => ∃ lo hi : Nat, a = .int .i64 lo ∧ b = .int .i64 hi ∧ lo ≤ hi ∧ hi ≤ n ∧ wx = w ∧ Kept ((∀ k, k < lo → ys.getD k 0 < x) ∧ (∀ k, hi ≤ k → k < ys.length → x ≤ ys.getD k 0))) (fun a b _ => (intOf b).toNat - (intOf a).toNat)
 case atStart => exact ⟨0, n, rfl, rfl, Nat.zero_le _, Nat.le_refl _, rfl, ⟨fun k h => absurd h (by omega), fun k h1 h2 => absurd h2 (by have := hlen.out; omega)⟩⟩
 case round =>
  obtain ⟨lo, hi, rfl, rfl, hlh, hin, rfl, HI⟩ := hrel
  by_cases hlt : lo < hi
  ·obtain ⟨y, hy⟩ : ∃ y, ys[(lo + hi) / 2]? = some y := ⟨_, List.getElem?_eq_getElem (by have := hlen.out; omega)⟩
   obtain ⟨ad, rfl, hc⟩ := HR.out.cell (wds_at hy)
   have hyd : Kept (ys.getD ((lo + hi) / 2) 0 = y) := ⟨by simp [List.getD_eq_getElem?_getD, hy]⟩
   clear hy
   by_cases ht : y < x
   ·have hd : decide (y < x) = true := decide_eq_true ht
    have HT := Lib.hid ht
    clear ht
    go_wp2_with (go_at_call 172; refine (CL.out _ _ _).mono ?_; rintro e w' ⟨rfl, rfl⟩)
    go_roundw
    case rel => exact ⟨(lo + hi) / 2 + 1, hi, by rw [show ((lo : Int) + (hi : Int)) / 2 + 1 = (((lo + hi) / 2 + 1 : Nat) : Int) by omega], rfl, by omega, hin, trivial, ⟨fun k hk => by
     have h1 : ys.getD k 0 ≤ ys.getD ((lo + hi) / 2) 0 := by
      by_cases e : k = (lo + hi) / 2
      ·rw [e]; exact Nat.le_refl _
      ·exact HS.out k _ (by omega) (by have := hlen.out; omega)
     have := hyd.out
     have := HT.out
     omega, HI.out.2⟩⟩
    case measure => simp [intOf]; omega
   ·have hd : decide (y < x) = false := decide_eq_false ht
    have HT := Lib.hid ht
    clear ht
    go_wp2_with (go_at_call 172; refine (CL.out _ _ _).mono ?_; rintro e w' ⟨rfl, rfl⟩)
    go_roundw
    case rel => exact ⟨lo, (lo + hi) / 2, rfl, by rw [show ((lo : Int) + (hi : Int)) / 2 = (((lo + hi) / 2 : Nat) : Int) by omega], by omega, by omega, trivial, ⟨HI.out.1, fun k hk hk2 => by
     have h1 : ys.getD ((lo + hi) / 2) 0 ≤ ys.getD k 0 := by
      by_cases e : k = (lo + hi) / 2
      ·rw [e]; exact Nat.le_refl _
      ·exact HS.out _ k (by omega) hk2
     have := hyd.out
     have := HT.out
     omega⟩⟩
    case measure => simp [intOf]; omega
  ·obtain rfl : lo = hi := by omega
   have HB : Hid (Bs ys x lo) := ⟨by have := hlen.out; omega, HI.out.1, HI.out.2⟩
   by_cases hn2 : lo < n
   ·obtain ⟨y, hy⟩ : ∃ y, ys[lo]? = some y := ⟨_, List.getElem?_eq_getElem (by have := hlen.out; omega)⟩
    obtain ⟨ad, rfl, hc⟩ := HR.out.cell (wds_at hy)
    have i0 : (0 : Int) ≤ (lo : Int) := by omega
    have i1 : (lo : Int) < (n : Int) := by omega
    clear hy
    by_cases he : y = x
    ·have hei : (y : Int) = (x : Int) := by omega
     go_wp2_with (go_at_call 219; refine (CN.out _ _).mono ?_; rintro e w' ⟨rfl, rfl⟩)
     go_ret2
     exact ⟨lo, _, rfl, HB.out, rfl⟩
    ·have hei : ¬ ((y : Int) = (x : Int)) := by omega
     go_wp2_with (go_at_call 219; refine (CN.out _ _).mono ?_; rintro e w' ⟨rfl, rfl⟩)
     go_ret2
     exact ⟨lo, _, rfl, HB.out, rfl⟩
   ·go_wp2
    go_ret2
    exact ⟨lo, _, rfl, HB.out, rfl⟩
structure Btw (w : World) (base b : Nat) (xs : List Nat) : Prop where
 ex : ∃ (A : Option Addr) (c : Nat) (ys : List Nat), Blk w b 92 #[.slice A xs.length c] ∧ Row w A xs.length (wds ys) ∧ Srtd xs ys ∧ base ≤ b ∧ (∀ ad, A = some ad → 0 < xs.length → base ≤ ad.block)
theorem Btw.on {w w' : World} {base b : Nat} {xs : List Nat} (h : Btw w base b xs) (hb : Below w.heap.size w w') : Btw w' base b xs := by
 obtain ⟨A, c, ys, h1, h2, h3⟩ := h.ex
 exact ⟨A, c, ys, h1.on hb, h2.on hb, h3⟩
theorem Btw.kq {w w' : World} {base b : Nat} {xs : List Nat} {n0 : Nat} {X : List Nat} (h : Btw w base b xs) (hk : Kq n0 X w w') (hX : ∀ q, base ≤ q → q < w.heap.size → q < n0 ∧ q ∉ X) : Btw w' base b xs := by
 obtain ⟨A, c, ys, h1, h2, h3, h4, h5⟩ := h.ex
 have key : ∀ q, base ≤ q → q < w.heap.size → w'.heap[q]? = w.heap[q]? := fun q hq hl => hk.old q (hX q hq hl).1 (hX q hq hl).2
 refine ⟨A, c, ys, ⟨(key b h4 h1.lt).trans h1.out⟩, ⟨h2.len, fun hn => ?_⟩, h3, h4, h5⟩
 obtain ⟨ad, e, hl, hc⟩ := h2.tow hn
 exact ⟨ad, e, Nat.lt_of_lt_of_le hl hk.sz, fun j u hu => (World.cell?_of_block (by rw [block_of_add]; exact key _ (h5 ad e hn) hl)).trans (hc j u hu)⟩
set_option maxHeartbeats 2000000 in
theorem btw_any (A0 : Option Addr) (m c0 : Nat) (xs : List Nat) (w : World) (hr : Row w A0 m (wds xs)) (hz : m ≤ 1000) (hso : SOk xs) : Calls Tryz.prog 181 #[.slice A0 m c0] w fun e w' => ∃ b : Nat, e = .returned (.func (.func 202) #[] #[.pointer (some ⟨b, 0, none⟩)]) ∧ Btw w' w.heap.size b xs ∧ Below w.heap.size w w' := by
 have CV := Lib.hid (values_any A0 m c0 w)
 have b0 := below_alloc_ w (.cells #[.slice A0 m c0] 92)
 have c1 := (Blk.new w 92 #[.slice A0 m c0]).cell
 obtain ⟨w0, hw0⟩ : ∃ w0, w.alloc (.cells #[.slice A0 m c0] 92) = w0 := ⟨_, rfl⟩
 rw [hw0] at CV b0 c1
 have CS := Lib.hid (sorted_any w.heap.size A0 m c0 xs w0 c1 (hr.on b0) hz hso)
 have B0 := Lib.hid b0
 clear hr hw0 c1 b0
 go_enter Tryz.func181, Tryz.ntmps181
 go_wp2_with (first
  | (go_at_call 201; (with_reducible refine CV.out.mono ?_); rintro e w1 ⟨rfl, rfl⟩)
  | (go_at_call 75; (with_reducible refine CS.out.mono ?_); rintro e w2 ⟨A, c, ys, rfl, hr2, hs2, hb2, hq2⟩))
 go_ret
 refine ⟨w2.heap.size, rfl, ⟨A, c, ys, Blk.new _ _ _, hr2.alloc _, hs2, ?_, fun ad e h => Nat.le_trans B0.out.size (hq2 ad e h)⟩, ?_⟩
 ·have := B0.out.size; have := hb2.size; omega
 ·exact below_up (below_up B0.out B0.out.size hb2) (below_up B0.out B0.out.size hb2).size (below_alloc_ _ _)
set_option maxHeartbeats 2000000 in
theorem btw1_any (base b : Nat) (xs : List Nat) (lo hi : Nat) (w : World) (h : Btw w base b xs) (hz : xs.length ≤ 1000) : Calls Tryz.prog 202 #[.int .u64 (lo : Nat), .int .u64 (hi : Nat), .pointer (some ⟨b, 0, none⟩)] w fun e w' => e = .returned (.bool (D.pin xs lo hi)) ∧ w' = w := by
 obtain ⟨A, c, ys, hB, hr, hs, -⟩ := h.ex
 have CB := Lib.hid (bs_any A xs.length c ys lo w hr (by exact hs.rise) hz)
 have HS := Lib.hid hs
 have HR := Lib.hid hr
 have hc := hB.cell
 clear h hB hr hs
 go_enter Tryz.func202, Tryz.ntmps202
 go_wp2_with fail
 refine CB.out.mono ?_
 rintro e w1 ⟨i, b2, rfl, hb, rfl⟩
 have HP := Lib.hid (Bs.pin HS.out (hi := hi) hb)
 have hyl := HS.out.len
 by_cases hi1 : i < xs.length
 ·obtain ⟨y, hy⟩ : ∃ y, ys[i]? = some y := ⟨_, List.getElem?_eq_getElem (by omega)⟩
  obtain ⟨ad, rfl, hcy⟩ := HR.out.cell (wds_at hy)
  have hd : D.pin xs lo hi = decide (y < hi) := by
   rw [HP.out, decide_eq_true (by omega), Bool.true_and, List.getD_eq_getElem?_getD, hy]; rfl
  have HD := Lib.hid hd
  have i0 : (0 : Int) ≤ (i : Int) := by omega
  have i1 : (i : Int) < (xs.length : Int) := by omega
  clear hd hb hy hyl
  go_wp2
  go_ret
  exact ⟨by rw [HD.out]; simp, rfl⟩
 ·have hd : D.pin xs lo hi = false := by
   rw [HP.out, decide_eq_false (by omega)]; rfl
  have HD := Lib.hid hd
  clear hd hb hyl
  go_wp2
  go_ret
  exact ⟨by rw [HD.out]; rfl, rfl⟩
end Go.Proofs.YtjlaffgbmcpldaaGreatDoor
namespace Go.Proofs.YtjlaffgbmcpldaaGreatDoor
open Go.RowKit
section
variable {P : Program} {ops : Array Oper} {S : World → Prop} {F : Fence} {n : Nat} {md : Region.Mode} {Q : Exit → Act → World → Prop}
theorem yieldsIf_in {i : Nat} {o : Oper} {v : Value} {a : Act} (hro : F.round = none) (hfn : ∀ f, F.fn f) (hi : ops[i]? = some o) (hy : YieldsIf P ops S o v a)
  {K : Act → World → Prop} {w : World} (hS : S w) (h : K (a.put o.dst v) w) : wpOpIn F n P ops Q i K a w := by
 unfold Go.wpOpIn
 simp only [hi]
 rcases hy with ⟨hw, hv⟩ | ⟨hw, rfl⟩
 ·rw [if_pos hw]
  refine ⟨fun f _ => hfn f, ?_⟩
  rw [hro, Oper.semAt_none, hv w hS]
  exact h
 ·rw [if_neg (by simp [hw])]
  exact ⟨fun f _ => hfn f, h⟩
theorem wpOpIn_putIf {j : Nat} {oi oj : Oper} {v : Value} (hro : F.round = none) (hfn : ∀ f, F.fn f) (hj : ops[j]? = some oj) (hap : oi.apart ops oj = true)
  (hsi : ∀ cs b, oi.op ≠ .select cs b) (hsj : ∀ cs b, oj.op ≠ .select cs b)
  (hQ : ∀ c a w, Q (.panic c) (a.put oi.dst v) w → Q (.panic c) a w) {K : Act → World → Prop} {a : Act} {w : World}
  (hy : YieldsIf P ops S oi v a) (h : wpOpIn F n P ops Q j K (a.put oi.dst v) w) :
  wpOpIn F n P ops Q j (fun a' w' => YieldsIf P ops S oi v a' ∧ K (a'.put oi.dst v) w') a w := by
 obtain ⟨h1, h2, h3⟩ := Oper.apart_spec hap
 have keep : ∀ (a : Act), YieldsIf P ops S oi v a → ∀ u, YieldsIf P ops S oi v (a.put oj.dst u) := fun a hy u =>
  hy.of_same (execOp_put oi hsi a oj.dst u h3) (wanted_put oi a oj.dst u h3)
 have keepD : ∀ d, YieldsIf P ops S oi v { a with defers := d :: a.defers } := fun d => hy.of_same rfl rfl
 unfold wpOpIn at *
 simp only [hj] at *
 rw [wanted_put oj a oi.dst v h1] at h
 split
 ·rename_i hw
  simp only [hw, if_true] at h
  unfold Oper.wpIn at *
  refine ⟨fun f _ => hfn f, ?_⟩
  have h := h.2
  rw [hro, Oper.semAt_none, execOp_put oj hsj a oi.dst v h1] at h
  rw [hro, Oper.semAt_none]
  generalize (execOp a.eval oj).run P w = r at *
  cases r with
  | ok x w' =>
   cases x <;> simp only [Oper.uponIn] at h ⊢
   case value u => exact ⟨keep a hy u, by rw [← Act.put_comm a v u h2]; exact h⟩
   case skip => exact ⟨keep a hy _, by rw [← Act.put_comm a v undef h2]; exact h⟩
   case defer d =>
    refine ⟨keep _ (keepD d) _, ?_⟩
    rw [← Act.put_comm _ v undef h2, ← Act.put_defers]
    exact h
   case enter f args =>
    refine ⟨h.1, CallsIn.mono h.2 fun e w'' he => ?_⟩
    cases e with
    | returned u => exact ⟨keep a hy u, by rw [← Act.put_comm a v u h2]; exact he⟩
    | panicked c => exact hQ _ _ _ he
    | outgrown => exact he
   case row row args => exact ⟨h.1, RowsIn.mono h.2 fun u w'' he => ⟨keep a hy u, by rw [← Act.put_comm a v u h2]; exact he⟩⟩
   case round l f tmps assign body =>
    refine ⟨h.1, RoundIn.mono h.2 fun e w'' he => ?_⟩
    cases e with
    | returned u => exact ⟨keep a hy u, by rw [← Act.put_comm a v u h2]; exact he⟩
    | panicked c => exact hQ _ _ _ he
    | outgrown => exact he
  | halt x w' =>
   cases x <;> simp only [Oper.uponIn] at h ⊢
   case panic u => exact hQ _ _ _ h
 ·rename_i hw
  simp only [hw] at h
  exact ⟨fun f _ => hfn f, keep a hy _, by rw [← Act.put_comm a v undef h2]; exact h.2⟩
def wpAnyF (F : Fence) (n : Nat) (P : Program) (md : Region.Mode) (ops : Array Oper) (Q : Exit → Act → World → Prop) (S : World → Prop) : Nat → Array Bool → Act → World → Prop
 | 0, listed, a, w => Region.ready md ops listed = [] ∧ Q .normal a w
 | fuel + 1, listed, a, w =>
  (Region.ready md ops listed = [] → Q .normal a w) ∧
  ∀ i ∈ Region.ready md ops listed, wpOpIn F n P ops Q i (fun a' w' => S w' ∧ wpAnyF F n P md ops Q S fuel (listed.setIfInBounds i true) a' w') a w
theorem wpAnyIn_of_f : ∀ (fuel : Nat) (listed : Array Bool) (a : Act) (w : World), wpAnyF F n P md ops Q S fuel listed a w → wpAnyIn F n P md ops Q fuel listed a w
 | 0, _, _, _, h => h
 | fuel + 1, _, _, _, h => ⟨h.1, fun i hi => wpOpIn_mono (fun a' w' h' => wpAnyIn_of_f fuel _ a' w' h'.2) (h.2 i hi)⟩
theorem wpAnyF_first {i : Nat} {oi : Oper} {v : Value} (hro : F.round = none) (hfn : ∀ f, F.fn f) (hi : ops[i]? = some oi) (hsel : ∀ (j : Nat) (o : Oper) cs b, ops[j]? = some o → o.op ≠ .select cs b)
  (hQ : ∀ c a w, Q (.panic c) (a.put oi.dst v) w → Q (.panic c) a w) :
  ∀ (fuel : Nat) (listed : Array Bool) (a : Act) (w : World),
   (∀ j oj, ops[j]? = some oj → j ≠ i → listed.getD j true = false → (∀ e ∈ oj.after, Region.binds md e = true → e.on ≠ i) → oi.apart ops oj = true) →
   i ∈ Region.ready md ops listed → YieldsIf P ops S oi v a → S w →
   wpAnyF F n P md ops Q S fuel (listed.setIfInBounds i true) (a.put oi.dst v) w → wpAnyF F n P md ops Q S (fuel + 1) listed a w := by
 intro fuel
 induction fuel with
 | zero =>
  intro listed a w _ hr hy hS H
  refine ⟨fun h => (by rw [h] at hr; cases hr), fun j hj => ?_⟩
  by_cases hji : j = i
  ·subst hji; exact yieldsIf_in hro hfn hi hy hS ⟨hS, H⟩
  ·have := ready_mono hj hji
   rw [H.1] at this
   cases this
 | succ fuel ih =>
  intro listed a w hfree hr hy hS H
  refine ⟨fun h => (by rw [h] at hr; cases hr), fun j hj => ?_⟩
  by_cases hji : j = i
  ·subst hji; exact yieldsIf_in hro hfn hi hy hS ⟨hS, H⟩
  ·have h1 := H.2 j (ready_mono hj hji)
   obtain ⟨hjun, oj, hoj, hall⟩ := mem_ready.1 hj
   have hnot : ∀ e ∈ oj.after, Region.binds md e = true → e.on ≠ i := fun e he hb heq => by
    have h1 := hall e he hb
    have h0 := (mem_ready.1 hr).1
    rw [heq] at h1
    rcases Nat.lt_or_ge i listed.size with h' | h'
    ·simp [h'] at h0 h1; rw [h0] at h1; cases h1
    ·simp [Array.getElem?_eq_none h'] at h1
   have h2 := wpOpIn_putIf hro hfn hoj (hfree j oj hoj hji hjun hnot) (fun cs b => hsel i oi cs b hi) (fun cs b => hsel j oj cs b hoj) hQ hy h1
   have hfree' : ∀ k ok, ops[k]? = some ok → k ≠ i → (listed.setIfInBounds j true).getD k true = false →
     (∀ e ∈ ok.after, Region.binds md e = true → e.on ≠ i) → oi.apart ops ok = true := fun k ok hk hki hun hno => by
    refine hfree k ok hk hki ?_ hno
    by_cases hjk : j = k
    ·subst hjk; exact hjun
    ·rw [getD_set_ne true hjk] at hun; exact hun
   refine wpOpIn_mono (fun a' w' h3 => ⟨h3.2.1, ih (listed.setIfInBounds j true) a' w' hfree' (ready_mono hr (Ne.symm hji)) h3.1 h3.2.1 ?_⟩) h2
   rw [Array.setIfInBounds_comm _ _ hji]
   exact h3.2.2
theorem takeF (hro : F.round = none) (hfn : ∀ f, F.fn f) (i : Nat) (d : Option Tmp) (v : Value) {fuel : Nat} {listed : Array Bool} {a : Act} {w : World} (hd : (ops[i]?).map (·.dst) = some d)
  (hs : Region.noSelect ops = true) (hf : Region.free md ops listed i = true) (hr : (Region.ready md ops listed).contains i = true)
  (hQ : ∀ c a w, Q (.panic c) (a.put d v) w → Q (.panic c) a w) (hw : (ops[i]?).map (fun o => Region.wanted o (yielded ops a.tmps)) = some true)
  (hy : ∀ o, ops[i]? = some o → ∀ w, S w → (execOp a.eval o).run P w = .ok (.value v) w) (hS : S w)
  (h : wpAnyF F n P md ops Q S fuel (listed.setIfInBounds i true) (a.put d v) w) : wpAnyF F n P md ops Q S (fuel + 1) listed a w := by
 cases ho : ops[i]? with
 | none => rw [ho] at hd; cases hd
 | some o =>
  rw [ho] at hd hw
  simp only [Option.map_some, Option.some.injEq] at hd hw
  subst hd
  exact wpAnyF_first hro hfn ho (Region.noSelect_spec hs) hQ fuel listed a w (Region.free_spec ho hf) (by simpa using hr) (.inl ⟨hw, fun w hS => hy o ho w hS⟩) hS h
theorem skipF (hro : F.round = none) (hfn : ∀ f, F.fn f) (i : Nat) (d : Option Tmp) {fuel : Nat} {listed : Array Bool} {a : Act} {w : World} (hd : (ops[i]?).map (·.dst) = some d)
  (hs : Region.noSelect ops = true) (hf : Region.free md ops listed i = true) (hr : (Region.ready md ops listed).contains i = true)
  (hQ : ∀ c a w, Q (.panic c) (a.put d undef) w → Q (.panic c) a w) (hw : (ops[i]?).map (fun o => Region.wanted o (yielded ops a.tmps)) = some false) (hS : S w)
  (h : wpAnyF F n P md ops Q S fuel (listed.setIfInBounds i true) (a.put d undef) w) : wpAnyF F n P md ops Q S (fuel + 1) listed a w := by
 cases ho : ops[i]? with
 | none => rw [ho] at hd; cases hd
 | some o =>
  rw [ho] at hd hw
  simp only [Option.map_some, Option.some.injEq] at hd hw
  subst hd
  exact wpAnyF_first hro hfn ho (Region.noSelect_spec hs) hQ fuel listed a w (Region.free_spec ho hf) (by simpa using hr) (.inr ⟨hw, rfl⟩) hS h
theorem nextF (i : Nat) {fuel : Nat} {listed : Array Bool} {a : Act} {w : World} (hr : Region.ready md ops listed = [i])
  (hw : (ops[i]?).map (fun o => Region.wanted o (yielded ops a.tmps)) = some true)
  (h : ∀ o, ops[i]? = some o → ∀ K : Act → World → Prop, Shut (∀ a w, S w → (S w → wpAnyF F n P md ops Q S fuel (listed.setIfInBounds i true) a w) → K a w) → Oper.wpIn F n P o a w K Q) : wpAnyF F n P md ops Q S (fuel + 1) listed a w := by
 cases ho : ops[i]? with
 | none => rw [ho] at hw; cases hw
 | some o =>
  rw [ho] at hw
  simp only [Option.map_some, Option.some.injEq] at hw
  refine ⟨fun h0 => (by rw [hr] at h0; cases h0), fun j hj => ?_⟩
  rw [hr] at hj
  rw [List.mem_singleton.1 hj]
  unfold wpOpIn
  simp only [ho, hw, if_true]
  exact h o ho _ (fun a w h1 h2 => ⟨h1, h2 h1⟩)
theorem stepF {i : Nat} {fuel : Nat} {listed : Array Bool} {a : Act} {w : World} (hw : (ops[i]?).map (fun o => Region.wanted o (yielded ops a.tmps)) = some true)
  (h : ∀ o, ops[i]? = some o → ∀ K : Act → World → Prop, Shut (∀ a w, S w → (S w → wpAnyF F n P md ops Q S fuel (listed.setIfInBounds i true) a w) → K a w) → Oper.wpIn F n P o a w K Q) :
  wpOpIn F n P ops Q i (fun a' w' => S w' ∧ wpAnyF F n P md ops Q S fuel (listed.setIfInBounds i true) a' w') a w := by
 cases ho : ops[i]? with
 | none => rw [ho] at hw; cases hw
 | some o =>
  rw [ho] at hw
  simp only [Option.map_some, Option.some.injEq] at hw
  unfold wpOpIn
  simp only [ho, hw, if_true]
  exact h o ho _ (fun a w h1 h2 => ⟨h1, h2 h1⟩)
theorem fork2F (i j : Nat) {fuel : Nat} {listed : Array Bool} {a : Act} {w : World} (hr : Region.ready md ops listed = [i, j])
  (hwi : (ops[i]?).map (fun o => Region.wanted o (yielded ops a.tmps)) = some true) (hwj : (ops[j]?).map (fun o => Region.wanted o (yielded ops a.tmps)) = some true)
  (hi : ∀ o, ops[i]? = some o → ∀ K : Act → World → Prop, Shut (∀ a w, S w → (S w → wpAnyF F n P md ops Q S fuel (listed.setIfInBounds i true) a w) → K a w) → Oper.wpIn F n P o a w K Q)
  (hj : ∀ o, ops[j]? = some o → ∀ K : Act → World → Prop, Shut (∀ a w, S w → (S w → wpAnyF F n P md ops Q S fuel (listed.setIfInBounds j true) a w) → K a w) → Oper.wpIn F n P o a w K Q) : wpAnyF F n P md ops Q S (fuel + 1) listed a w := by
 refine ⟨fun h0 => (by rw [hr] at h0; cases h0), fun k hk => ?_⟩
 rw [hr] at hk
 simp only [List.mem_cons, List.not_mem_nil, or_false] at hk
 rcases hk with rfl | rfl
 ·exact stepF hwi hi
 ·exact stepF hwj hj
theorem fork3F (i j k : Nat) {fuel : Nat} {listed : Array Bool} {a : Act} {w : World} (hr : Region.ready md ops listed = [i, j, k])
  (hwi : (ops[i]?).map (fun o => Region.wanted o (yielded ops a.tmps)) = some true) (hwj : (ops[j]?).map (fun o => Region.wanted o (yielded ops a.tmps)) = some true) (hwk : (ops[k]?).map (fun o => Region.wanted o (yielded ops a.tmps)) = some true)
  (hi : ∀ o, ops[i]? = some o → ∀ K : Act → World → Prop, Shut (∀ a w, S w → (S w → wpAnyF F n P md ops Q S fuel (listed.setIfInBounds i true) a w) → K a w) → Oper.wpIn F n P o a w K Q)
  (hj : ∀ o, ops[j]? = some o → ∀ K : Act → World → Prop, Shut (∀ a w, S w → (S w → wpAnyF F n P md ops Q S fuel (listed.setIfInBounds j true) a w) → K a w) → Oper.wpIn F n P o a w K Q)
  (hk : ∀ o, ops[k]? = some o → ∀ K : Act → World → Prop, Shut (∀ a w, S w → (S w → wpAnyF F n P md ops Q S fuel (listed.setIfInBounds k true) a w) → K a w) → Oper.wpIn F n P o a w K Q) : wpAnyF F n P md ops Q S (fuel + 1) listed a w := by
 refine ⟨fun h0 => (by rw [hr] at h0; cases h0), fun q hq => ?_⟩
 rw [hr] at hq
 simp only [List.mem_cons, List.not_mem_nil, or_false] at hq
 rcases hq with rfl | rfl | rfl
 ·exact stepF hwi hi
 ·exact stepF hwj hj
 ·exact stepF hwk hk
theorem doneF {listed : Array Bool} {a : Act} {w : World} (hr : Region.ready md ops listed = []) (h : Q .normal a w) : ∀ fuel, wpAnyF F n P md ops Q S fuel listed a w
 | 0 => ⟨hr, h⟩
 | _ + 1 => ⟨fun _ => h, by rw [hr]; simp⟩
theorem opIn_of {o : Oper} {a : Act} {w : World} {K : Act → World → Prop} (hd : ∀ c, o.op ≠ Op.defer c) (h : o.wp P a w K Q) : o.wpIn Fence.wide n P a w K Q := by
 refine ⟨fun _ _ => trivial, ?_⟩
 rw [Oper.semAt_eq _ _ _ hd]
 unfold Oper.wp at h
 generalize (execOp a.eval o).run P w = r at *
 cases r with
 | ok x w' =>
  cases x <;> simp only [Oper.uponIn, Oper.upon] at h ⊢
  case value u => exact h
  case skip => exact h
  case defer d => exact h
  case enter f args => exact ⟨fun e => (by cases e), callsIn_wide.2 h⟩
  case row row args => exact ⟨fun e => (by cases e), fun c cs _ => let ⟨v, w', r, s⟩ := h c cs; ⟨v, w', r, stepsIn_wide.2 s⟩⟩
 | halt x w' =>
  cases x <;> simp only [Oper.uponIn, Oper.upon] at h ⊢
  case panic u => exact h
theorem region_f {id : Nat} {a : Act} {w : World} (hm : P.follows .mixedOrders = true) (hS : S w.drew)
  (h : S w.drew → wpAnyF Fence.wide n P .any ops (NoPanic Q) S ops.size (Array.replicate ops.size false) a w.drew) : (Code.region id ops true).wpIn Fence.wide n P Q a w :=
 wpIn_mono (wpIn_region_any hm (wpAnyIn_of_f _ _ _ _ (h hS))) NoPanic.imp
end
end Go.Proofs.YtjlaffgbmcpldaaGreatDoor
namespace Go.Proofs.YtjlaffgbmcpldaaGreatDoor
open Go.RowKit Go.Shelf
attribute [local go_sem] Oper.semAt_some
attribute [local go_sem ↓] Go.wp_at_zero Go.wp_at_succ ld_v lv_v st_v ne_v bd_v bs_v ld_w lv_w st_w ne_w bd_w bs_w ld_rh ld_d lv_rh lv_d st_r st_d ne_rh eq_rh ne_d bd_rh bd_d
attribute [local go_sem] run_ldv run_lvv run_stv run_nev run_bdv_z run_bdv_d run_bdv_r run_bsv1 run_bsv0 run_ldw run_lvw run_stw run_new run_bdw_3 run_bsw1 run_bsw0 run_ldrh run_ldd run_lvrh run_lvd run_str run_std run_nerh run_eqrh run_ned run_bdr0 run_bdd0 run_bdr1 run_bdd1 run_bdd9 Shp.rd_new Shp.rd_old Shp.rd_drew Shp.rd_drewN Shp.rd_set Shp.tn_new Shp.tn_old Shp.tn_drew Shp.tn_drewN setRow_alloc vv_0 vv_1 run_fdv0 run_fdv1 Shp.rd_extk cell_ext
theorem D.ned_last1 (ps : List Nat) {vs : List D.Vn} {j : Nat} {v : D.Vn} (h : vs[j]? = some v) (hl : j + 1 = vs.length) : D.ned ps (vs.drop j) = v :: D.ned ps (vs.drop (j + 1)) := by
 obtain ⟨hj, rfl⟩ := List.getElem?_eq_some_iff.1 h
 rw [List.drop_eq_getElem_cons hj, List.drop_of_length_le (by omega)]
 rfl
theorem D.ned_next (ps : List Nat) {vs : List D.Vn} {j : Nat} {v u : D.Vn} (h : vs[j]? = some v) (hu : vs[j + 1]? = some u) : D.ned ps (vs.drop j) = if D.pin ps v.a u.a = true then v :: D.ned ps (vs.drop (j + 1)) else D.ned ps (vs.drop (j + 1)) := by
 obtain ⟨hj, rfl⟩ := List.getElem?_eq_some_iff.1 h
 obtain ⟨hj2, rfl⟩ := List.getElem?_eq_some_iff.1 hu
 rw [List.drop_eq_getElem_cons hj, List.drop_eq_getElem_cons hj2, D.ned]
theorem D.ned_len (ps : List Nat) (l : List D.Vn) : (D.ned ps l).length ≤ l.length := (D.ned_sub ps l).length_le
set_option maxHeartbeats 8000000 in
theorem need_in (n : Nat) (hn : 6 ≤ n) (m : Nat) (hm : m ≤ 1000) (l b0 b1 b base : Nat) (p A : Option Addr) (c : Nat) (vs : List D.Vn) (ps : List Nat) (hps : ps.length ≤ 1000) (n0 : Nat) (X : List Nat) (J Jx : List D.Vn → World → Prop)
  (w W : World) (hwW : Below w.heap.size w W) (h0 : w.cell? ⟨b0, 0, none⟩ = some (.pointer p)) (h1 : w.cell? ⟨b1, 0, none⟩ = some (.func (.func 202) #[] #[.pointer (some ⟨b, 0, none⟩)])) (hal : Al w p A m c vs) (hbt : Btw w base b ps)
  (hX1 : b1 < n0 ∧ b1 ∉ X) (hXv : ∀ ad, A = some ad → 0 < m → ad.block < n0 ∧ ad.block ∉ X) (hXb : ∀ q, base ≤ q → q < w.heap.size → q < n0 ∧ q ∉ X) (h0n : n0 ≤ w.heap.size)
  (hA : AbidesFrom W.heap.size J)
  (hY : ∀ pre (y : D.Vn) W1, J pre W1 → pre.length < (D.ned ps vs).length → YieldAt Fence.wide (n - 1) Tryz.prog l #[.agg (vS.v y)] W1 fun e W' =>
   (e = .returned (.bool true) ∧ J (pre ++ [y]) W' ∧ Kq n0 X W1 W') ∨ (e = .returned (.bool false) ∧ Jx (pre ++ [y]) W'))
  (hJ0 : J [] W) :
  CallsIn Fence.wide n Tryz.prog 204 #[.func (.yield l) #[] #[], .pointer (some ⟨b0, 0, none⟩), .pointer (some ⟨b1, 0, none⟩)] W fun e W' => (∃ v, e = .returned v) ∧ ((∃ ys : List D.Vn, ys = D.ned ps vs ∧ J ys W') ∨ (∃ pre, Jx pre W')) := by
 have hk0 : Kq n0 X w W := Kq.below hwW h0n
 have HY := Lib.hid hY
 have HA := Lib.hid hA
 have CA := Lib.hid (hal.all W hwW)
 have HR := Lib.hid hal.row
 have HB := Lib.hid hbt
 have HXv := Lib.hid hXv
 have HXb := Lib.hid hXb
 have H1 := Lib.hid h1
 have HX1 := Lib.hid hX1
 have HK0 := Lib.hid hk0
 have hn0W : n0 ≤ W.heap.size := Nat.le_trans h0n hwW.size
 have hlen : Kept (vs.length = m) := ⟨hal.row.len⟩
 have c0 := cell_kept_ hwW h0
 clear hY hA hal hbt hXv hXb h1 hX1 hk0 h0 hwW
 refine callsIn_of_wp Tryz.func204 rfl trivial ?_ rfl
 simp only [Tryz.ntmps204, List.size_toArray, List.length_cons, List.length_nil, Nat.reduceAdd, Nat.reduceSub, Array.replicate_succ, Array.replicate_zero, List.push_toArray, List.append_toArray, List.nil_append, List.cons_append]
 gi_wp2
 refine ⟨trivial, fun _ => by omega, ?_⟩
 refine (callsIn_wide.2 CA.out).mono ?_
 rintro e w1 ⟨rfl, rfl⟩
 gi_wp2
 gi_loopw [12] (fun s wr => ∃ (j : Nat) (pre : List D.Vn), j ≤ m ∧ s = .int .i64 j ∧ w1.heap.size ≤ wr.heap.size ∧ Kq n0 X w wr ∧ Kept (pre ++ D.ned ps (vs.drop j) = D.ned ps vs) ∧ J pre wr) (fun s _ => m - (intOf s).toNat)
 case atStart => exact ⟨0, [], Nat.zero_le _, rfl, Nat.le_refl _, HK0.out, ⟨by simp⟩, hJ0⟩
 case round =>
  obtain ⟨j, pre, hj, rfl, hsz, hk, HP, hJ⟩ := hrel
  by_cases hlt : j < m
  ·obtain ⟨v, hv⟩ : ∃ v, vs[j]? = some v := ⟨_, List.getElem?_eq_getElem (by have := hlen.out; omega)⟩
   obtain ⟨ad, hAe, hal, hrd⟩ := HR.out.rd hv
   obtain ⟨hx1, hx2⟩ := HXv.out ad hAe (by omega)
   subst hAe
   have hrd2 : ∀ W', Kq n0 X w W' → ∀ k u, vs[k]? = some u → vS.rd W' (ad.add (k * 11)) = some u := fun W' hk' k u hu => by
    obtain ⟨ad', e, hal', hr'⟩ := HR.out.rd hu
    injection e with e; subst e
    exact (Shp.rd_to (hk'.old _ (by rw [block_of_add]; exact hx1) (by rw [block_of_add]; exact hx2))).trans hr'
   have r0 := hrd2 wr hk j v hv
   have i0 : (0 : Int) ≤ (j : Int) := by omega
   have i1 : (j : Int) < (m : Int) := by omega
   -- the round's own box
   obtain ⟨gx, hgx⟩ : ∃ gx, wr.heap.size = gx := ⟨_, rfl⟩
   obtain ⟨W1, hW1⟩ : ∃ W1, wr.alloc (.cells (vS.v v) 194) = W1 := ⟨_, rfl⟩
   have b1' : Below wr.heap.size wr W1 := by rw [← hW1]; exact below_alloc_ _ _
   have r1 : vS.rd W1 ⟨gx, 0, none⟩ = some v := by rw [← hW1, ← hgx]; exact Shp.rd_new _ _ _ _ rfl
   have hk1 : Kq n0 X w W1 := hk.trans (Kq.below b1' (by omega))
   have hJ1 := HA.out pre wr W1 none hJ (grown_none b1') (fun r e => by cases e)
   obtain ⟨W2, hW2⟩ : ∃ W2, W1.drew = W2 := ⟨_, rfl⟩
   have b2 : Below W1.heap.size W1 W2 := by rw [← hW2]; exact (Below.refl _ _).drew
   have r2 := Shp.rd_on r1 b2
   have hk2 : Kq n0 X w W2 := hk1.trans (Kq.below b2 (by have := b1'.size; omega))
   have hJ2 := HA.out pre W1 W2 none hJ1 (grown_none b2) (fun r e => by cases e)
   have hz2 : w1.heap.size ≤ W2.heap.size := Nat.le_trans hsz (Nat.le_trans b1'.size b2.size)
   have HS2 := Lib.hid (show Kq n0 X w W2 ∧ w1.heap.size ≤ W2.heap.size ∧ J pre W2 from ⟨hk2, hz2, hJ2⟩)
   by_cases hlast : j + 1 = m
   ·have hned := D.ned_last1 ps hv (by have := hlen.out; omega)
    have hp : pre ++ v :: D.ned ps (vs.drop (j + 1)) = D.ned ps vs := by rw [← hned]; exact HP.out
    have hplen : pre.length < (D.ned ps vs).length := by rw [← hp, List.length_append, List.length_cons]; omega
    obtain ⟨fn, tmps, assign, body, hyd, hR⟩ := HY.out pre v W2 hJ2 hplen
    have hR2 := Lib.hid (RoundIn.mono hR fun e W' hh => show ∃ bb : Bool, e = .returned (.bool bb) ∧ (if bb = true then J (pre ++ [v]) W' ∧ Kq n0 X W2 W' else Jx (pre ++ [v]) W') from by
     rcases hh with ⟨h1, h2⟩ | ⟨h1, h2⟩
     ·exact ⟨true, h1, by rw [if_pos rfl]; exact h2⟩
     ·exact ⟨false, h1, by rw [if_neg (by decide)]; exact h2⟩)
    have HP2 := Lib.hid hp
    have hje : ((j : Int) == (m : Int) - 1) = true := by simp; omega
    have hjd : decide ((j : Int) = (m : Int) - 1) = true := decide_eq_true (by omega)
    clear hned hp hplen hJ2 hJ1 hJ hR hv hrd hrd2 hk hk1 hk2
    gi_wp2
    have hmix : Tryz.prog.follows .mixedOrders = true := by kernel_rfl
    refine region_f hmix (S := fun _ => True) trivial (fun sd => ?_)
    try rw [hW2]
    refine takeF rfl (fun _ => trivial) 0 (some 22) ?va0 (by kernel_rfl) (by kernel_rfl) (by kernel_rfl) (by kernel_rfl) (fun _ _ _ h => h) (by rfl) ?hya0 trivial ?resta0
    case hya0 => (intro o ho W hW; simp only [gT, gS, gZ, sI] at ho; subst ho; (try dsimp only at hW); go_simp; try rfl)
    try simp only [Act.put, iT, iZ, iS]
    refine takeF rfl (fun _ => trivial) 1 (some 23) ?va1 (by kernel_rfl) (by kernel_rfl) (by kernel_rfl) (by kernel_rfl) (fun _ _ _ h => h) (by rfl) ?hya1 trivial ?resta1
    case hya1 => (intro o ho W hW; simp only [gT, gS, gZ, sI] at ho; subst ho; (try dsimp only at hW); go_simp; try rfl)
    try simp only [Act.put, iT, iZ, iS]
    refine skipF rfl (fun _ => trivial) 2 (some 24) (by kernel_rfl) (by kernel_rfl) (by kernel_rfl) (by kernel_rfl) (fun _ _ _ h => h) (by rfl) trivial ?_
    try simp only [Act.put, iT, iZ, iS]
    refine skipF rfl (fun _ => trivial) 3 (some 25) (by kernel_rfl) (by kernel_rfl) (by kernel_rfl) (by kernel_rfl) (fun _ _ _ h => h) (by rfl) trivial ?_
    try simp only [Act.put, iT, iZ, iS]
    refine skipF rfl (fun _ => trivial) 4 (some 26) (by kernel_rfl) (by kernel_rfl) (by kernel_rfl) (by kernel_rfl) (fun _ _ _ h => h) (by rfl) trivial ?_
    try simp only [Act.put, iT, iZ, iS]
    refine skipF rfl (fun _ => trivial) 5 (some 27) (by kernel_rfl) (by kernel_rfl) (by kernel_rfl) (by kernel_rfl) (fun _ _ _ h => h) (by rfl) trivial ?_
    try simp only [Act.put, iT, iZ, iS]
    refine skipF rfl (fun _ => trivial) 6 (some 28) (by kernel_rfl) (by kernel_rfl) (by kernel_rfl) (by kernel_rfl) (fun _ _ _ h => h) (by rfl) trivial ?_
    try simp only [Act.put, iT, iZ, iS]
    refine skipF rfl (fun _ => trivial) 7 (some 29) (by kernel_rfl) (by kernel_rfl) (by kernel_rfl) (by kernel_rfl) (fun _ _ _ h => h) (by rfl) trivial ?_
    try simp only [Act.put, iT, iZ, iS]
    refine skipF rfl (fun _ => trivial) 8 (some 30) (by kernel_rfl) (by kernel_rfl) (by kernel_rfl) (by kernel_rfl) (fun _ _ _ h => h) (by rfl) trivial ?_
    try simp only [Act.put, iT, iZ, iS]
    refine skipF rfl (fun _ => trivial) 9 (some 31) (by kernel_rfl) (by kernel_rfl) (by kernel_rfl) (by kernel_rfl) (fun _ _ _ h => h) (by rfl) trivial ?_
    try simp only [Act.put, iT, iZ, iS]
    refine skipF rfl (fun _ => trivial) 10 (some 32) (by kernel_rfl) (by kernel_rfl) (by kernel_rfl) (by kernel_rfl) (fun _ _ _ h => h) (by rfl) trivial ?_
    try simp only [Act.put, iT, iZ, iS]
    refine skipF rfl (fun _ => trivial) 11 (some 33) (by kernel_rfl) (by kernel_rfl) (by kernel_rfl) (by kernel_rfl) (fun _ _ _ h => h) (by rfl) trivial ?_
    try simp only [Act.put, iT, iZ, iS]
    refine takeF rfl (fun _ => trivial) 12 (some 34) (.bool true) (by kernel_rfl) (by kernel_rfl) (by kernel_rfl) (by kernel_rfl) (fun _ _ _ h => h) (by rfl) ?hya12 trivial ?resta12
    case hya12 => (intro o ho W hW; simp only [gT, gS, gZ, sI] at ho; subst ho; (try dsimp only at hW); go_simp; try rfl)
    try simp only [Act.put, iT, iZ, iS]
    refine takeF rfl (fun _ => trivial) 13 (some 35) (.bool true) (by kernel_rfl) (by kernel_rfl) (by kernel_rfl) (by kernel_rfl) (fun _ _ _ h => h) (by rfl) ?hya13 trivial ?resta13
    case hya13 => (intro o ho W hW; simp only [gT, gS, gZ, sI] at ho; subst ho; (try dsimp only at hW); go_simp; try rfl)
    try simp only [Act.put, iT, iZ, iS]
    refine takeF rfl (fun _ => trivial) 14 (some 36) ?va14 (by kernel_rfl) (by kernel_rfl) (by kernel_rfl) (by kernel_rfl) (fun _ _ _ h => h) (by rfl) ?hya14 trivial ?resta14
    case hya14 => (intro o ho W hW; simp only [gT, gS, gZ, sI] at ho; subst ho; (try dsimp only at hW); go_simp; try rfl)
    try simp only [Act.put, iT, iZ, iS]
    refine nextF 15 (by kernel_rfl) (by rfl) (fun o ho K hK => ?_)
    simp only [gT, gS, gZ, sI] at ho; subst ho
    refine opIn_of (by intro c hc; cases hc) ?_
    go_simp
    refine hK.out _ _ trivial (fun _ => ?_)
    clear hK K
    try simp only [Act.put, iT, iZ, iS]
    refine nextF 16 (by kernel_rfl) (by rfl) (fun o ho K hK => ?_)
    simp only [gT, gS, gZ, sI] at ho; subst ho
    refine ⟨fun _ _ => trivial, ?_⟩
    simp [Oper.semAt, execOp, resolve, invoke, go_sem, hyd]
    refine ⟨fun _ => by omega, hR2.out.mono ?_⟩
    rintro e W3 ⟨bb, rfl, hG⟩
    refine hK.out _ _ trivial (fun _ => ?_)
    clear hK K
    try simp only [Act.put, iT, iZ, iS]
    cases bb with
    | false =>
     refine takeF rfl (fun _ => trivial) 17 (some 39) ?vax17 (by kernel_rfl) (by kernel_rfl) (by kernel_rfl) (by kernel_rfl) (fun _ _ _ h => h) (by rfl) ?hyax17 trivial ?restax17
     case hyax17 => (intro o ho W hW; simp only [gT, gS, gZ, sI] at ho; subst ho; (try dsimp only at hW); go_simp; try rfl)
     try simp only [Act.put, iT, iZ, iS]
     refine takeF rfl (fun _ => trivial) 18 (some 40) ?vax18 (by kernel_rfl) (by kernel_rfl) (by kernel_rfl) (by kernel_rfl) (fun _ _ _ h => h) (by rfl) ?hyax18 trivial ?restax18
     case hyax18 => (intro o ho W hW; simp only [gT, gS, gZ, sI] at ho; subst ho; (try dsimp only at hW); go_simp; try rfl)
     try simp only [Act.put, iT, iZ, iS]
     refine doneF (by kernel_rfl) ?_ _
     refine NoPanic.normal ?_
     rw [if_neg (by decide)] at hG
     gi_wp2
     refine bodyPost_ret (results_none rfl _ _ _) rfl ?_
     exact ⟨⟨_, rfl⟩, .inr ⟨_, hG⟩⟩
    | true =>
     refine takeF rfl (fun _ => trivial) 17 (some 39) ?vay17 (by kernel_rfl) (by kernel_rfl) (by kernel_rfl) (by kernel_rfl) (fun _ _ _ h => h) (by rfl) ?hyay17 trivial ?restay17
     case hyay17 => (intro o ho W hW; simp only [gT, gS, gZ, sI] at ho; subst ho; (try dsimp only at hW); go_simp; try rfl)
     try simp only [Act.put, iT, iZ, iS]
     refine takeF rfl (fun _ => trivial) 18 (some 40) ?vay18 (by kernel_rfl) (by kernel_rfl) (by kernel_rfl) (by kernel_rfl) (fun _ _ _ h => h) (by rfl) ?hyay18 trivial ?restay18
     case hyay18 => (intro o ho W hW; simp only [gT, gS, gZ, sI] at ho; subst ho; (try dsimp only at hW); go_simp; try rfl)
     try simp only [Act.put, iT, iZ, iS]
     refine doneF (by kernel_rfl) ?_ _
     refine NoPanic.normal ?_
     rw [if_pos rfl] at hG
     obtain ⟨hJ3, hk3⟩ := hG
     gi_wp2
     go_roundw
     case rel => exact ⟨j + 1, pre ++ [v], by omega, by go_num, Nat.le_trans HS2.out.2.1 hk3.sz, HS2.out.1.trans hk3, ⟨by rw [List.append_assoc]; exact HP2.out⟩, hJ3⟩
     case measure => simp [intOf]; omega
   ·obtain ⟨u, hu⟩ : ∃ u, vs[j + 1]? = some u := ⟨_, List.getElem?_eq_getElem (by have := hlen.out; omega)⟩
    have hned := D.ned_next ps hv hu
    have ru := hrd2 W2 hk2 (j + 1) u hu
    have hje : ((j : Int) == (m : Int) - 1) = false := by simp; omega
    have hjd : decide ((j : Int) = (m : Int) - 1) = false := decide_eq_false (by omega)
    have j2 : (j : Int) + 1 < (m : Int) := by omega
    have j3 : (0 : Int) ≤ (j : Int) + 1 := by omega
    have hw1 : IntKind.i64.wrap ((j : Int) + 1) = (j : Int) + 1 := IntWalk.i64_in _ (by omega)
    have c1 : W2.cell? ⟨b1, 0, none⟩ = some (.func (.func 202) #[] #[.pointer (some ⟨b, 0, none⟩)]) := (World.cell?_of_block (hk2.old _ HX1.out.1 HX1.out.2)).trans H1.out
    have q0 := (vf r2).1
    have q1 := (vr ru).1
    have CP := Lib.hid (btw1_any base b ps v.a u.a W2 (HB.out.kq hk2 HXb.out) hps)
    cases hpin : D.pin ps v.a u.a with
    | false =>
     rw [hpin] at CP
     rw [hpin, if_neg (by decide)] at hned
     have HP2 : Kept (pre ++ D.ned ps (vs.drop (j + 1)) = D.ned ps vs) := ⟨by rw [← hned]; exact HP.out⟩
     clear hned hJ2 hJ1 hJ hv hrd hrd2 hk hk1 hk2 hu
     gi_wp2
     have hmix : Tryz.prog.follows .mixedOrders = true := by kernel_rfl
     refine region_f hmix (S := fun W => W = W2) hW2 (fun sd => ?_)
     try rw [hW2]
     refine takeF rfl (fun _ => trivial) 0 (some 22) ?vb0 (by kernel_rfl) (by kernel_rfl) (by kernel_rfl) (by kernel_rfl) (fun _ _ _ h => h) (by rfl) ?hyb0 rfl ?restb0
     case hyb0 => (intro o ho W hW; simp only [gT, gS, gZ, sI] at ho; subst ho; (try dsimp only at hW); subst hW; go_simp; try rfl)
     try simp only [Act.put, iT, iZ, iS]
     refine takeF rfl (fun _ => trivial) 1 (some 23) ?vb1 (by kernel_rfl) (by kernel_rfl) (by kernel_rfl) (by kernel_rfl) (fun _ _ _ h => h) (by rfl) ?hyb1 rfl ?restb1
     case hyb1 => (intro o ho W hW; simp only [gT, gS, gZ, sI] at ho; subst ho; (try dsimp only at hW); subst hW; go_simp; try rfl)
     try simp only [Act.put, iT, iZ, iS]
     refine takeF rfl (fun _ => trivial) 2 (some 24) ?vb2 (by kernel_rfl) (by kernel_rfl) (by kernel_rfl) (by kernel_rfl) (fun _ _ _ h => h) (by rfl) ?hyb2 rfl ?restb2
     case hyb2 => (intro o ho W hW; simp only [gT, gS, gZ, sI] at ho; subst ho; (try dsimp only at hW); subst hW; go_simp; try rfl)
     try simp only [Act.put, iT, iZ, iS]
     refine takeF rfl (fun _ => trivial) 3 (some 25) ?vb3 (by kernel_rfl) (by kernel_rfl) (by kernel_rfl) (by kernel_rfl) (fun _ _ _ h => h) (by rfl) ?hyb3 rfl ?restb3
     case hyb3 => (intro o ho W hW; simp only [gT, gS, gZ, sI] at ho; subst ho; (try dsimp only at hW); subst hW; go_simp; try rfl)
     try simp only [Act.put, iT, iZ, iS]
     refine takeF rfl (fun _ => trivial) 4 (some 26) ?vb4 (by kernel_rfl) (by kernel_rfl) (by kernel_rfl) (by kernel_rfl) (fun _ _ _ h => h) (by rfl) ?hyb4 rfl ?restb4
     case hyb4 => (intro o ho W hW; simp only [gT, gS, gZ, sI] at ho; subst ho; (try dsimp only at hW); subst hW; go_simp; try rfl)
     try simp only [Act.put, iT, iZ, iS]
     refine takeF rfl (fun _ => trivial) 5 (some 27) ?vb5 (by kernel_rfl) (by kernel_rfl) (by kernel_rfl) (by kernel_rfl) (fun _ _ _ h => h) (by rfl) ?hyb5 rfl ?restb5
     case hyb5 => (intro o ho W hW; simp only [gT, gS, gZ, sI] at ho; subst ho; (try dsimp only at hW); subst hW; go_simp; try rfl)
     try simp only [Act.put, iT, iZ, iS]
     refine takeF rfl (fun _ => trivial) 6 (some 28) ?vb6 (by kernel_rfl) (by kernel_rfl) (by kernel_rfl) (by kernel_rfl) (fun _ _ _ h => h) (by rfl) ?hyb6 rfl ?restb6
     case hyb6 => (intro o ho W hW; simp only [gT, gS, gZ, sI] at ho; subst ho; (try dsimp only at hW); subst hW; go_simp; try rfl)
     try simp only [Act.put, iT, iZ, iS]
     refine takeF rfl (fun _ => trivial) 7 (some 29) (.int .i64 ((j : Int) + 1)) (by kernel_rfl) (by kernel_rfl) (by kernel_rfl) (by kernel_rfl) (fun _ _ _ h => h) (by rfl) ?hyb7 rfl ?restb7
     case hyb7 => (intro o ho W hW; simp only [gT, gS, gZ, sI] at ho; subst ho; (try dsimp only at hW); subst hW; go_simp; try exact hw1)
     try simp only [Act.put, iT, iZ, iS]
     refine takeF rfl (fun _ => trivial) 8 (some 30) (.pointer (some (ad.add ((j + 1) * 11)))) (by kernel_rfl) (by kernel_rfl) (by kernel_rfl) (by kernel_rfl) (fun _ _ _ h => h) (by rfl) ?hyb8 rfl ?restb8
     case hyb8 => (intro o ho W hW; simp only [gT, gS, gZ, sI] at ho; subst ho; (try dsimp only at hW); subst hW; go_simp; try exact hix)
     try simp only [Act.put, iT, iZ, iS]
     refine takeF rfl (fun _ => trivial) 9 (some 31) (.pointer (some (ad.add ((j + 1) * 11)))) (by kernel_rfl) (by kernel_rfl) (by kernel_rfl) (by kernel_rfl) (fun _ _ _ h => h) (by rfl) ?hyb9 rfl ?restb9
     case hyb9 => (intro o ho W hW; simp only [gT, gS, gZ, sI] at ho; subst ho; (try dsimp only at hW); subst hW; go_simp; try rfl)
     try simp only [Act.put, iT, iZ, iS]
     refine takeF rfl (fun _ => trivial) 10 (some 32) (.int .u64 (u.a : Nat)) (by kernel_rfl) (by kernel_rfl) (by kernel_rfl) (by kernel_rfl) (fun _ _ _ h => h) (by rfl) ?hyb10 rfl ?restb10
     case hyb10 => (intro o ho W hW; simp only [gT, gS, gZ, sI] at ho; subst ho; (try dsimp only at hW); subst hW; go_simp; try rfl)
     try simp only [Act.put, iT, iZ, iS]
     refine nextF 11 (by kernel_rfl) (by rfl) (fun o ho K hK => ?_)
     simp only [gT, gS, gZ, sI] at ho; subst ho
     refine opIn_of (by intro c hc; cases hc) ?_
     go_simp
     (go_at_call 202; (with_reducible refine CP.out.mono ?_); rintro e w' ⟨rfl, hw'⟩)
     rw [hw']
     refine hK.out _ _ rfl (fun _ => ?_)
     clear hK K
     try simp only [Act.put, iT, iZ, iS]
     refine takeF rfl (fun _ => trivial) 12 (some 34) (.bool false) (by kernel_rfl) (by kernel_rfl) (by kernel_rfl) (by kernel_rfl) (fun _ _ _ h => h) (by rfl) ?hyb12 rfl ?restb12
     case hyb12 => (intro o ho W hW; simp only [gT, gS, gZ, sI] at ho; subst ho; (try dsimp only at hW); subst hW; go_simp; try rfl)
     try simp only [Act.put, iT, iZ, iS]
     refine takeF rfl (fun _ => trivial) 13 (some 35) (.bool false) (by kernel_rfl) (by kernel_rfl) (by kernel_rfl) (by kernel_rfl) (fun _ _ _ h => h) (by rfl) ?hyb13 rfl ?restb13
     case hyb13 => (intro o ho W hW; simp only [gT, gS, gZ, sI] at ho; subst ho; (try dsimp only at hW); subst hW; go_simp; try rfl)
     try simp only [Act.put, iT, iZ, iS]
     refine skipF rfl (fun _ => trivial) 14 (some 36) (by kernel_rfl) (by kernel_rfl) (by kernel_rfl) (by kernel_rfl) (fun _ _ _ h => h) (by rfl) rfl ?_
     try simp only [Act.put, iT, iZ, iS]
     refine skipF rfl (fun _ => trivial) 15 (some 37) (by kernel_rfl) (by kernel_rfl) (by kernel_rfl) (by kernel_rfl) (fun _ _ _ h => h) (by rfl) rfl ?_
     try simp only [Act.put, iT, iZ, iS]
     refine skipF rfl (fun _ => trivial) 16 (some 38) (by kernel_rfl) (by kernel_rfl) (by kernel_rfl) (by kernel_rfl) (fun _ _ _ h => h) (by rfl) rfl ?_
     try simp only [Act.put, iT, iZ, iS]
     refine skipF rfl (fun _ => trivial) 17 (some 39) (by kernel_rfl) (by kernel_rfl) (by kernel_rfl) (by kernel_rfl) (fun _ _ _ h => h) (by rfl) rfl ?_
     try simp only [Act.put, iT, iZ, iS]
     refine takeF rfl (fun _ => trivial) 18 (some 40) (.bool false) (by kernel_rfl) (by kernel_rfl) (by kernel_rfl) (by kernel_rfl) (fun _ _ _ h => h) (by rfl) ?hyb18 rfl ?restb18
     case hyb18 => (intro o ho W hW; simp only [gT, gS, gZ, sI] at ho; subst ho; (try dsimp only at hW); subst hW; go_simp; try rfl)
     try simp only [Act.put, iT, iZ, iS]
     refine doneF (by kernel_rfl) ?_ _
     refine NoPanic.normal ?_
     gi_wp2
     go_roundw
     case rel => exact ⟨j + 1, pre, by omega, by go_num, HS2.out.2.1, HS2.out.1, HP2, HS2.out.2.2⟩
     case measure => simp [intOf]; omega
    | true =>
     rw [hpin] at CP
     rw [hpin, if_pos rfl] at hned
     have hp : pre ++ v :: D.ned ps (vs.drop (j + 1)) = D.ned ps vs := by rw [← hned]; exact HP.out
     have hplen : pre.length < (D.ned ps vs).length := by rw [← hp, List.length_append, List.length_cons]; omega
     obtain ⟨fn, tmps, assign, body, hyd, hR⟩ := HY.out pre v W2 hJ2 hplen
     have hR2 := Lib.hid (RoundIn.mono hR fun e W' hh => show ∃ bb : Bool, e = .returned (.bool bb) ∧ (if bb = true then J (pre ++ [v]) W' ∧ Kq n0 X W2 W' else Jx (pre ++ [v]) W') from by
      rcases hh with ⟨h1, h2⟩ | ⟨h1, h2⟩
      ·exact ⟨true, h1, by rw [if_pos rfl]; exact h2⟩
      ·exact ⟨false, h1, by rw [if_neg (by decide)]; exact h2⟩)
     have HP2 := Lib.hid hp
     clear hned hp hplen hJ2 hJ1 hJ hR hv hrd hrd2 hk hk1 hk2 hu
     gi_wp2
     have hmix : Tryz.prog.follows .mixedOrders = true := by kernel_rfl
     refine region_f hmix (S := fun _ => True) trivial (fun sd => ?_)
     try rw [hW2]
     refine takeF rfl (fun _ => trivial) 0 (some 22) ?vc0 (by kernel_rfl) (by kernel_rfl) (by kernel_rfl) (by kernel_rfl) (fun _ _ _ h => h) (by rfl) ?hyc0 trivial ?restc0
     case hyc0 => (intro o ho W hW; simp only [gT, gS, gZ, sI] at ho; subst ho; (try dsimp only at hW); go_simp; try rfl)
     try simp only [Act.put, iT, iZ, iS]
     refine takeF rfl (fun _ => trivial) 1 (some 23) ?vc1 (by kernel_rfl) (by kernel_rfl) (by kernel_rfl) (by kernel_rfl) (fun _ _ _ h => h) (by rfl) ?hyc1 trivial ?restc1
     case hyc1 => (intro o ho W hW; simp only [gT, gS, gZ, sI] at ho; subst ho; (try dsimp only at hW); go_simp; try rfl)
     try simp only [Act.put, iT, iZ, iS]
     refine takeF rfl (fun _ => trivial) 3 (some 25) ?vc3 (by kernel_rfl) (by kernel_rfl) (by kernel_rfl) (by kernel_rfl) (fun _ _ _ h => h) (by rfl) ?hyc3 trivial ?restc3
     case hyc3 => (intro o ho W hW; simp only [gT, gS, gZ, sI] at ho; subst ho; (try dsimp only at hW); go_simp; try rfl)
     try simp only [Act.put, iT, iZ, iS]
     refine takeF rfl (fun _ => trivial) 5 (some 27) ?vc5 (by kernel_rfl) (by kernel_rfl) (by kernel_rfl) (by kernel_rfl) (fun _ _ _ h => h) (by rfl) ?hyc5 trivial ?restc5
     case hyc5 => (intro o ho W hW; simp only [gT, gS, gZ, sI] at ho; subst ho; (try dsimp only at hW); go_simp; try rfl)
     try simp only [Act.put, iT, iZ, iS]
     refine takeF rfl (fun _ => trivial) 6 (some 28) ?vc6 (by kernel_rfl) (by kernel_rfl) (by kernel_rfl) (by kernel_rfl) (fun _ _ _ h => h) (by rfl) ?hyc6 trivial ?restc6
     case hyc6 => (intro o ho W hW; simp only [gT, gS, gZ, sI] at ho; subst ho; (try dsimp only at hW); go_simp; try rfl)
     try simp only [Act.put, iT, iZ, iS]
     refine takeF rfl (fun _ => trivial) 7 (some 29) (.int .i64 ((j : Int) + 1)) (by kernel_rfl) (by kernel_rfl) (by kernel_rfl) (by kernel_rfl) (fun _ _ _ h => h) (by rfl) ?hyc7 trivial ?restc7
     case hyc7 => (intro o ho W hW; simp only [gT, gS, gZ, sI] at ho; subst ho; (try dsimp only at hW); go_simp; try exact hw1)
     try simp only [Act.put, iT, iZ, iS]
     refine takeF rfl (fun _ => trivial) 8 (some 30) (.pointer (some (ad.add ((j + 1) * 11)))) (by kernel_rfl) (by kernel_rfl) (by kernel_rfl) (by kernel_rfl) (fun _ _ _ h => h) (by rfl) ?hyc8 trivial ?restc8
     case hyc8 => (intro o ho W hW; simp only [gT, gS, gZ, sI] at ho; subst ho; (try dsimp only at hW); go_simp; try exact hix)
     try simp only [Act.put, iT, iZ, iS]
     refine takeF rfl (fun _ => trivial) 9 (some 31) (.pointer (some (ad.add ((j + 1) * 11)))) (by kernel_rfl) (by kernel_rfl) (by kernel_rfl) (by kernel_rfl) (fun _ _ _ h => h) (by rfl) ?hyc9 trivial ?restc9
     case hyc9 => (intro o ho W hW; simp only [gT, gS, gZ, sI] at ho; subst ho; (try dsimp only at hW); go_simp; try rfl)
     try simp only [Act.put, iT, iZ, iS]
     refine fork3F 2 4 10 (by kernel_rfl) (by rfl) (by rfl) (by rfl) (fun o ho K hK => ?_) (fun o ho K hK => ?_) (fun o ho K hK => ?_)
     ·simp only [gT, gS, gZ, sI] at ho; subst ho
      refine opIn_of (by intro c hc; cases hc) ?_
      go_simp
      refine hK.out _ _ trivial (fun _ => ?_)
      clear hK K
      try simp only [Act.put, iT, iZ, iS]
      refine fork2F 4 10 (by kernel_rfl) (by rfl) (by rfl) (fun o ho K hK => ?_) (fun o ho K hK => ?_)
      ·simp only [gT, gS, gZ, sI] at ho; subst ho
       refine opIn_of (by intro c hc; cases hc) ?_
       go_simp
       refine hK.out _ _ trivial (fun _ => ?_)
       clear hK K
       try simp only [Act.put, iT, iZ, iS]
       refine nextF 10 (by kernel_rfl) (by rfl) (fun o ho K hK => ?_)
       simp only [gT, gS, gZ, sI] at ho; subst ho
       refine opIn_of (by intro c hc; cases hc) ?_
       go_simp
       refine hK.out _ _ trivial (fun _ => ?_)
       clear hK K
       try simp only [Act.put, iT, iZ, iS]
       refine nextF 11 (by kernel_rfl) (by rfl) (fun o ho K hK => ?_)
       simp only [gT, gS, gZ, sI] at ho; subst ho
       refine opIn_of (by intro c hc; cases hc) ?_
       go_simp
       (go_at_call 202; (with_reducible refine CP.out.mono ?_); rintro e w' ⟨rfl, hw'⟩)
       rw [hw']
       refine hK.out _ _ trivial (fun _ => ?_)
       clear hK K
       try simp only [Act.put, iT, iZ, iS]
       refine takeF rfl (fun _ => trivial) 12 (some 34) (.bool true) (by kernel_rfl) (by kernel_rfl) (by kernel_rfl) (by kernel_rfl) (fun _ _ _ h => h) (by rfl) ?hyd112 trivial ?restd112
       case hyd112 => (intro o ho W hW; simp only [gT, gS, gZ, sI] at ho; subst ho; (try dsimp only at hW); go_simp; try rfl)
       try simp only [Act.put, iT, iZ, iS]
       refine takeF rfl (fun _ => trivial) 13 (some 35) (.bool true) (by kernel_rfl) (by kernel_rfl) (by kernel_rfl) (by kernel_rfl) (fun _ _ _ h => h) (by rfl) ?hyd113 trivial ?restd113
       case hyd113 => (intro o ho W hW; simp only [gT, gS, gZ, sI] at ho; subst ho; (try dsimp only at hW); go_simp; try rfl)
       try simp only [Act.put, iT, iZ, iS]
       refine takeF rfl (fun _ => trivial) 14 (some 36) ?vd114 (by kernel_rfl) (by kernel_rfl) (by kernel_rfl) (by kernel_rfl) (fun _ _ _ h => h) (by rfl) ?hyd114 trivial ?restd114
       case hyd114 => (intro o ho W hW; simp only [gT, gS, gZ, sI] at ho; subst ho; (try dsimp only at hW); go_simp; try rfl)
       try simp only [Act.put, iT, iZ, iS]
       refine nextF 15 (by kernel_rfl) (by rfl) (fun o ho K hK => ?_)
       simp only [gT, gS, gZ, sI] at ho; subst ho
       refine opIn_of (by intro c hc; cases hc) ?_
       go_simp
       refine hK.out _ _ trivial (fun _ => ?_)
       clear hK K
       try simp only [Act.put, iT, iZ, iS]
       refine nextF 16 (by kernel_rfl) (by rfl) (fun o ho K hK => ?_)
       simp only [gT, gS, gZ, sI] at ho; subst ho
       refine ⟨fun _ _ => trivial, ?_⟩
       simp [Oper.semAt, execOp, resolve, invoke, go_sem, hyd]
       refine ⟨fun _ => by omega, hR2.out.mono ?_⟩
       rintro e W3 ⟨bb, rfl, hG⟩
       refine hK.out _ _ trivial (fun _ => ?_)
       clear hK K
       try simp only [Act.put, iT, iZ, iS]
       cases bb with
       | false =>
        refine takeF rfl (fun _ => trivial) 17 (some 39) ?vd1x17 (by kernel_rfl) (by kernel_rfl) (by kernel_rfl) (by kernel_rfl) (fun _ _ _ h => h) (by rfl) ?hyd1x17 trivial ?restd1x17
        case hyd1x17 => (intro o ho W hW; simp only [gT, gS, gZ, sI] at ho; subst ho; (try dsimp only at hW); go_simp; try rfl)
        try simp only [Act.put, iT, iZ, iS]
        refine takeF rfl (fun _ => trivial) 18 (some 40) ?vd1x18 (by kernel_rfl) (by kernel_rfl) (by kernel_rfl) (by kernel_rfl) (fun _ _ _ h => h) (by rfl) ?hyd1x18 trivial ?restd1x18
        case hyd1x18 => (intro o ho W hW; simp only [gT, gS, gZ, sI] at ho; subst ho; (try dsimp only at hW); go_simp; try rfl)
        try simp only [Act.put, iT, iZ, iS]
        refine doneF (by kernel_rfl) ?_ _
        refine NoPanic.normal ?_
        rw [if_neg (by decide)] at hG
        gi_wp2
        refine bodyPost_ret (results_none rfl _ _ _) rfl ?_
        exact ⟨⟨_, rfl⟩, .inr ⟨_, hG⟩⟩
       | true =>
        refine takeF rfl (fun _ => trivial) 17 (some 39) ?vd1y17 (by kernel_rfl) (by kernel_rfl) (by kernel_rfl) (by kernel_rfl) (fun _ _ _ h => h) (by rfl) ?hyd1y17 trivial ?restd1y17
        case hyd1y17 => (intro o ho W hW; simp only [gT, gS, gZ, sI] at ho; subst ho; (try dsimp only at hW); go_simp; try rfl)
        try simp only [Act.put, iT, iZ, iS]
        refine takeF rfl (fun _ => trivial) 18 (some 40) ?vd1y18 (by kernel_rfl) (by kernel_rfl) (by kernel_rfl) (by kernel_rfl) (fun _ _ _ h => h) (by rfl) ?hyd1y18 trivial ?restd1y18
        case hyd1y18 => (intro o ho W hW; simp only [gT, gS, gZ, sI] at ho; subst ho; (try dsimp only at hW); go_simp; try rfl)
        try simp only [Act.put, iT, iZ, iS]
        refine doneF (by kernel_rfl) ?_ _
        refine NoPanic.normal ?_
        rw [if_pos rfl] at hG
        obtain ⟨hJ3, hk3⟩ := hG
        gi_wp2
        go_roundw
        case rel => exact ⟨j + 1, pre ++ [v], by omega, by go_num, Nat.le_trans HS2.out.2.1 hk3.sz, HS2.out.1.trans hk3, ⟨by rw [List.append_assoc]; exact HP2.out⟩, hJ3⟩
        case measure => simp [intOf]; omega
      ·simp only [gT, gS, gZ, sI] at ho; subst ho
       refine opIn_of (by intro c hc; cases hc) ?_
       go_simp
       refine hK.out _ _ trivial (fun _ => ?_)
       clear hK K
       try simp only [Act.put, iT, iZ, iS]
       refine nextF 4 (by kernel_rfl) (by rfl) (fun o ho K hK => ?_)
       simp only [gT, gS, gZ, sI] at ho; subst ho
       refine opIn_of (by intro c hc; cases hc) ?_
       go_simp
       refine hK.out _ _ trivial (fun _ => ?_)
       clear hK K
       try simp only [Act.put, iT, iZ, iS]
       refine nextF 11 (by kernel_rfl) (by rfl) (fun o ho K hK => ?_)
       simp only [gT, gS, gZ, sI] at ho; subst ho
       refine opIn_of (by intro c hc; cases hc) ?_
       go_simp
       (go_at_call 202; (with_reducible refine CP.out.mono ?_); rintro e w' ⟨rfl, hw'⟩)
       rw [hw']
       refine hK.out _ _ trivial (fun _ => ?_)
       clear hK K
       try simp only [Act.put, iT, iZ, iS]
       refine takeF rfl (fun _ => trivial) 12 (some 34) (.bool true) (by kernel_rfl) (by kernel_rfl) (by kernel_rfl) (by kernel_rfl) (fun _ _ _ h => h) (by rfl) ?hyd212 trivial ?restd212
       case hyd212 => (intro o ho W hW; simp only [gT, gS, gZ, sI] at ho; subst ho; (try dsimp only at hW); go_simp; try rfl)
       try simp only [Act.put, iT, iZ, iS]
       refine takeF rfl (fun _ => trivial) 13 (some 35) (.bool true) (by kernel_rfl) (by kernel_rfl) (by kernel_rfl) (by kernel_rfl) (fun _ _ _ h => h) (by rfl) ?hyd213 trivial ?restd213
       case hyd213 => (intro o ho W hW; simp only [gT, gS, gZ, sI] at ho; subst ho; (try dsimp only at hW); go_simp; try rfl)
       try simp only [Act.put, iT, iZ, iS]
       refine takeF rfl (fun _ => trivial) 14 (some 36) ?vd214 (by kernel_rfl) (by kernel_rfl) (by kernel_rfl) (by kernel_rfl) (fun _ _ _ h => h) (by rfl) ?hyd214 trivial ?restd214
       case hyd214 => (intro o ho W hW; simp only [gT, gS, gZ, sI] at ho; subst ho; (try dsimp only at hW); go_simp; try rfl)
       try simp only [Act.put, iT, iZ, iS]
       refine nextF 15 (by kernel_rfl) (by rfl) (fun o ho K hK => ?_)
       simp only [gT, gS, gZ, sI] at ho; subst ho
       refine opIn_of (by intro c hc; cases hc) ?_
       go_simp
       refine hK.out _ _ trivial (fun _ => ?_)
       clear hK K
       try simp only [Act.put, iT, iZ, iS]
       refine nextF 16 (by kernel_rfl) (by rfl) (fun o ho K hK => ?_)
       simp only [gT, gS, gZ, sI] at ho; subst ho
       refine ⟨fun _ _ => trivial, ?_⟩
       simp [Oper.semAt, execOp, resolve, invoke, go_sem, hyd]
       refine ⟨fun _ => by omega, hR2.out.mono ?_⟩
       rintro e W3 ⟨bb, rfl, hG⟩
       refine hK.out _ _ trivial (fun _ => ?_)
       clear hK K
       try simp only [Act.put, iT, iZ, iS]
       cases bb with
       | false =>
        refine takeF rfl (fun _ => trivial) 17 (some 39) ?vd2x17 (by kernel_rfl) (by kernel_rfl) (by kernel_rfl) (by kernel_rfl) (fun _ _ _ h => h) (by rfl) ?hyd2x17 trivial ?restd2x17
        case hyd2x17 => (intro o ho W hW; simp only [gT, gS, gZ, sI] at ho; subst ho; (try dsimp only at hW); go_simp; try rfl)
        try simp only [Act.put, iT, iZ, iS]
        refine takeF rfl (fun _ => trivial) 18 (some 40) ?vd2x18 (by kernel_rfl) (by kernel_rfl) (by kernel_rfl) (by kernel_rfl) (fun _ _ _ h => h) (by rfl) ?hyd2x18 trivial ?restd2x18
        case hyd2x18 => (intro o ho W hW; simp only [gT, gS, gZ, sI] at ho; subst ho; (try dsimp only at hW); go_simp; try rfl)
        try simp only [Act.put, iT, iZ, iS]
        refine doneF (by kernel_rfl) ?_ _
        refine NoPanic.normal ?_
        rw [if_neg (by decide)] at hG
        gi_wp2
        refine bodyPost_ret (results_none rfl _ _ _) rfl ?_
        exact ⟨⟨_, rfl⟩, .inr ⟨_, hG⟩⟩
       | true =>
        refine takeF rfl (fun _ => trivial) 17 (some 39) ?vd2y17 (by kernel_rfl) (by kernel_rfl) (by kernel_rfl) (by kernel_rfl) (fun _ _ _ h => h) (by rfl) ?hyd2y17 trivial ?restd2y17
        case hyd2y17 => (intro o ho W hW; simp only [gT, gS, gZ, sI] at ho; subst ho; (try dsimp only at hW); go_simp; try rfl)
        try simp only [Act.put, iT, iZ, iS]
        refine takeF rfl (fun _ => trivial) 18 (some 40) ?vd2y18 (by kernel_rfl) (by kernel_rfl) (by kernel_rfl) (by kernel_rfl) (fun _ _ _ h => h) (by rfl) ?hyd2y18 trivial ?restd2y18
        case hyd2y18 => (intro o ho W hW; simp only [gT, gS, gZ, sI] at ho; subst ho; (try dsimp only at hW); go_simp; try rfl)
        try simp only [Act.put, iT, iZ, iS]
        refine doneF (by kernel_rfl) ?_ _
        refine NoPanic.normal ?_
        rw [if_pos rfl] at hG
        obtain ⟨hJ3, hk3⟩ := hG
        gi_wp2
        go_roundw
        case rel => exact ⟨j + 1, pre ++ [v], by omega, by go_num, Nat.le_trans HS2.out.2.1 hk3.sz, HS2.out.1.trans hk3, ⟨by rw [List.append_assoc]; exact HP2.out⟩, hJ3⟩
        case measure => simp [intOf]; omega
     ·simp only [gT, gS, gZ, sI] at ho; subst ho
      refine opIn_of (by intro c hc; cases hc) ?_
      go_simp
      refine hK.out _ _ trivial (fun _ => ?_)
      clear hK K
      try simp only [Act.put, iT, iZ, iS]
      refine fork2F 2 10 (by kernel_rfl) (by rfl) (by rfl) (fun o ho K hK => ?_) (fun o ho K hK => ?_)
      ·simp only [gT, gS, gZ, sI] at ho; subst ho
       refine opIn_of (by intro c hc; cases hc) ?_
       go_simp
       refine hK.out _ _ trivial (fun _ => ?_)
       clear hK K
       try simp only [Act.put, iT, iZ, iS]
       refine nextF 10 (by kernel_rfl) (by rfl) (fun o ho K hK => ?_)
       simp only [gT, gS, gZ, sI] at ho; subst ho
       refine opIn_of (by intro c hc; cases hc) ?_
       go_simp
       refine hK.out _ _ trivial (fun _ => ?_)
       clear hK K
       try simp only [Act.put, iT, iZ, iS]
       refine nextF 11 (by kernel_rfl) (by rfl) (fun o ho K hK => ?_)
       simp only [gT, gS, gZ, sI] at ho; subst ho
       refine opIn_of (by intro c hc; cases hc) ?_
       go_simp
       (go_at_call 202; (with_reducible refine CP.out.mono ?_); rintro e w' ⟨rfl, hw'⟩)
       rw [hw']
       refine hK.out _ _ trivial (fun _ => ?_)
       clear hK K
       try simp only [Act.put, iT, iZ, iS]
       refine takeF rfl (fun _ => trivial) 12 (some 34) (.bool true) (by kernel_rfl) (by kernel_rfl) (by kernel_rfl) (by kernel_rfl) (fun _ _ _ h => h) (by rfl) ?hyd312 trivial ?restd312
       case hyd312 => (intro o ho W hW; simp only [gT, gS, gZ, sI] at ho; subst ho; (try dsimp only at hW); go_simp; try rfl)
       try simp only [Act.put, iT, iZ, iS]
       refine takeF rfl (fun _ => trivial) 13 (some 35) (.bool true) (by kernel_rfl) (by kernel_rfl) (by kernel_rfl) (by kernel_rfl) (fun _ _ _ h => h) (by rfl) ?hyd313 trivial ?restd313
       case hyd313 => (intro o ho W hW; simp only [gT, gS, gZ, sI] at ho; subst ho; (try dsimp only at hW); go_simp; try rfl)
       try simp only [Act.put, iT, iZ, iS]
       refine takeF rfl (fun _ => trivial) 14 (some 36) ?vd314 (by kernel_rfl) (by kernel_rfl) (by kernel_rfl) (by kernel_rfl) (fun _ _ _ h => h) (by rfl) ?hyd314 trivial ?restd314
       case hyd314 => (intro o ho W hW; simp only [gT, gS, gZ, sI] at ho; subst ho; (try dsimp only at hW); go_simp; try rfl)
       try simp only [Act.put, iT, iZ, iS]
       refine nextF 15 (by kernel_rfl) (by rfl) (fun o ho K hK => ?_)
       simp only [gT, gS, gZ, sI] at ho; subst ho
       refine opIn_of (by intro c hc; cases hc) ?_
       go_simp
       refine hK.out _ _ trivial (fun _ => ?_)
       clear hK K
       try simp only [Act.put, iT, iZ, iS]
       refine nextF 16 (by kernel_rfl) (by rfl) (fun o ho K hK => ?_)
       simp only [gT, gS, gZ, sI] at ho; subst ho
       refine ⟨fun _ _ => trivial, ?_⟩
       simp [Oper.semAt, execOp, resolve, invoke, go_sem, hyd]
       refine ⟨fun _ => by omega, hR2.out.mono ?_⟩
       rintro e W3 ⟨bb, rfl, hG⟩
       refine hK.out _ _ trivial (fun _ => ?_)
       clear hK K
       try simp only [Act.put, iT, iZ, iS]
       cases bb with
       | false =>
        refine takeF rfl (fun _ => trivial) 17 (some 39) ?vd3x17 (by kernel_rfl) (by kernel_rfl) (by kernel_rfl) (by kernel_rfl) (fun _ _ _ h => h) (by rfl) ?hyd3x17 trivial ?restd3x17
        case hyd3x17 => (intro o ho W hW; simp only [gT, gS, gZ, sI] at ho; subst ho; (try dsimp only at hW); go_simp; try rfl)
        try simp only [Act.put, iT, iZ, iS]
        refine takeF rfl (fun _ => trivial) 18 (some 40) ?vd3x18 (by kernel_rfl) (by kernel_rfl) (by kernel_rfl) (by kernel_rfl) (fun _ _ _ h => h) (by rfl) ?hyd3x18 trivial ?restd3x18
        case hyd3x18 => (intro o ho W hW; simp only [gT, gS, gZ, sI] at ho; subst ho; (try dsimp only at hW); go_simp; try rfl)
        try simp only [Act.put, iT, iZ, iS]
        refine doneF (by kernel_rfl) ?_ _
        refine NoPanic.normal ?_
        rw [if_neg (by decide)] at hG
        gi_wp2
        refine bodyPost_ret (results_none rfl _ _ _) rfl ?_
        exact ⟨⟨_, rfl⟩, .inr ⟨_, hG⟩⟩
       | true =>
        refine takeF rfl (fun _ => trivial) 17 (some 39) ?vd3y17 (by kernel_rfl) (by kernel_rfl) (by kernel_rfl) (by kernel_rfl) (fun _ _ _ h => h) (by rfl) ?hyd3y17 trivial ?restd3y17
        case hyd3y17 => (intro o ho W hW; simp only [gT, gS, gZ, sI] at ho; subst ho; (try dsimp only at hW); go_simp; try rfl)
        try simp only [Act.put, iT, iZ, iS]
        refine takeF rfl (fun _ => trivial) 18 (some 40) ?vd3y18 (by kernel_rfl) (by kernel_rfl) (by kernel_rfl) (by kernel_rfl) (fun _ _ _ h => h) (by rfl) ?hyd3y18 trivial ?restd3y18
        case hyd3y18 => (intro o ho W hW; simp only [gT, gS, gZ, sI] at ho; subst ho; (try dsimp only at hW); go_simp; try rfl)
        try simp only [Act.put, iT, iZ, iS]
        refine doneF (by kernel_rfl) ?_ _
        refine NoPanic.normal ?_
        rw [if_pos rfl] at hG
        obtain ⟨hJ3, hk3⟩ := hG
        gi_wp2
        go_roundw
        case rel => exact ⟨j + 1, pre ++ [v], by omega, by go_num, Nat.le_trans HS2.out.2.1 hk3.sz, HS2.out.1.trans hk3, ⟨by rw [List.append_assoc]; exact HP2.out⟩, hJ3⟩
        case measure => simp [intOf]; omega
      ·simp only [gT, gS, gZ, sI] at ho; subst ho
       refine opIn_of (by intro c hc; cases hc) ?_
       go_simp
       refine hK.out _ _ trivial (fun _ => ?_)
       clear hK K
       try simp only [Act.put, iT, iZ, iS]
       refine nextF 2 (by kernel_rfl) (by rfl) (fun o ho K hK => ?_)
       simp only [gT, gS, gZ, sI] at ho; subst ho
       refine opIn_of (by intro c hc; cases hc) ?_
       go_simp
       refine hK.out _ _ trivial (fun _ => ?_)
       clear hK K
       try simp only [Act.put, iT, iZ, iS]
       refine nextF 11 (by kernel_rfl) (by rfl) (fun o ho K hK => ?_)
       simp only [gT, gS, gZ, sI] at ho; subst ho
       refine opIn_of (by intro c hc; cases hc) ?_
       go_simp
       (go_at_call 202; (with_reducible refine CP.out.mono ?_); rintro e w' ⟨rfl, hw'⟩)
       rw [hw']
       refine hK.out _ _ trivial (fun _ => ?_)
       clear hK K
       try simp only [Act.put, iT, iZ, iS]
       refine takeF rfl (fun _ => trivial) 12 (some 34) (.bool true) (by kernel_rfl) (by kernel_rfl) (by kernel_rfl) (by kernel_rfl) (fun _ _ _ h => h) (by rfl) ?hyd412 trivial ?restd412
       case hyd412 => (intro o ho W hW; simp only [gT, gS, gZ, sI] at ho; subst ho; (try dsimp only at hW); go_simp; try rfl)
       try simp only [Act.put, iT, iZ, iS]
       refine takeF rfl (fun _ => trivial) 13 (some 35) (.bool true) (by kernel_rfl) (by kernel_rfl) (by kernel_rfl) (by kernel_rfl) (fun _ _ _ h => h) (by rfl) ?hyd413 trivial ?restd413
       case hyd413 => (intro o ho W hW; simp only [gT, gS, gZ, sI] at ho; subst ho; (try dsimp only at hW); go_simp; try rfl)
       try simp only [Act.put, iT, iZ, iS]
       refine takeF rfl (fun _ => trivial) 14 (some 36) ?vd414 (by kernel_rfl) (by kernel_rfl) (by kernel_rfl) (by kernel_rfl) (fun _ _ _ h => h) (by rfl) ?hyd414 trivial ?restd414
       case hyd414 => (intro o ho W hW; simp only [gT, gS, gZ, sI] at ho; subst ho; (try dsimp only at hW); go_simp; try rfl)
       try simp only [Act.put, iT, iZ, iS]
       refine nextF 15 (by kernel_rfl) (by rfl) (fun o ho K hK => ?_)
       simp only [gT, gS, gZ, sI] at ho; subst ho
       refine opIn_of (by intro c hc; cases hc) ?_
       go_simp
       refine hK.out _ _ trivial (fun _ => ?_)
       clear hK K
       try simp only [Act.put, iT, iZ, iS]
       refine nextF 16 (by kernel_rfl) (by rfl) (fun o ho K hK => ?_)
       simp only [gT, gS, gZ, sI] at ho; subst ho
       refine ⟨fun _ _ => trivial, ?_⟩
       simp [Oper.semAt, execOp, resolve, invoke, go_sem, hyd]
       refine ⟨fun _ => by omega, hR2.out.mono ?_⟩
       rintro e W3 ⟨bb, rfl, hG⟩
       refine hK.out _ _ trivial (fun _ => ?_)
       clear hK K
       try simp only [Act.put, iT, iZ, iS]
       cases bb with
       | false =>
        refine takeF rfl (fun _ => trivial) 17 (some 39) ?vd4x17 (by kernel_rfl) (by kernel_rfl) (by kernel_rfl) (by kernel_rfl) (fun _ _ _ h => h) (by rfl) ?hyd4x17 trivial ?restd4x17
        case hyd4x17 => (intro o ho W hW; simp only [gT, gS, gZ, sI] at ho; subst ho; (try dsimp only at hW); go_simp; try rfl)
        try simp only [Act.put, iT, iZ, iS]
        refine takeF rfl (fun _ => trivial) 18 (some 40) ?vd4x18 (by kernel_rfl) (by kernel_rfl) (by kernel_rfl) (by kernel_rfl) (fun _ _ _ h => h) (by rfl) ?hyd4x18 trivial ?restd4x18
        case hyd4x18 => (intro o ho W hW; simp only [gT, gS, gZ, sI] at ho; subst ho; (try dsimp only at hW); go_simp; try rfl)
        try simp only [Act.put, iT, iZ, iS]
        refine doneF (by kernel_rfl) ?_ _
        refine NoPanic.normal ?_
        rw [if_neg (by decide)] at hG
        gi_wp2
        refine bodyPost_ret (results_none rfl _ _ _) rfl ?_
        exact ⟨⟨_, rfl⟩, .inr ⟨_, hG⟩⟩
       | true =>
        refine takeF rfl (fun _ => trivial) 17 (some 39) ?vd4y17 (by kernel_rfl) (by kernel_rfl) (by kernel_rfl) (by kernel_rfl) (fun _ _ _ h => h) (by rfl) ?hyd4y17 trivial ?restd4y17
        case hyd4y17 => (intro o ho W hW; simp only [gT, gS, gZ, sI] at ho; subst ho; (try dsimp only at hW); go_simp; try rfl)
        try simp only [Act.put, iT, iZ, iS]
        refine takeF rfl (fun _ => trivial) 18 (some 40) ?vd4y18 (by kernel_rfl) (by kernel_rfl) (by kernel_rfl) (by kernel_rfl) (fun _ _ _ h => h) (by rfl) ?hyd4y18 trivial ?restd4y18
        case hyd4y18 => (intro o ho W hW; simp only [gT, gS, gZ, sI] at ho; subst ho; (try dsimp only at hW); go_simp; try rfl)
        try simp only [Act.put, iT, iZ, iS]
        refine doneF (by kernel_rfl) ?_ _
        refine NoPanic.normal ?_
        rw [if_pos rfl] at hG
        obtain ⟨hJ3, hk3⟩ := hG
        gi_wp2
        go_roundw
        case rel => exact ⟨j + 1, pre ++ [v], by omega, by go_num, Nat.le_trans HS2.out.2.1 hk3.sz, HS2.out.1.trans hk3, ⟨by rw [List.append_assoc]; exact HP2.out⟩, hJ3⟩
        case measure => simp [intOf]; omega
     ·simp only [gT, gS, gZ, sI] at ho; subst ho
      refine opIn_of (by intro c hc; cases hc) ?_
      go_simp
      refine hK.out _ _ trivial (fun _ => ?_)
      clear hK K
      try simp only [Act.put, iT, iZ, iS]
      refine fork2F 2 4 (by kernel_rfl) (by rfl) (by rfl) (fun o ho K hK => ?_) (fun o ho K hK => ?_)
      ·simp only [gT, gS, gZ, sI] at ho; subst ho
       refine opIn_of (by intro c hc; cases hc) ?_
       go_simp
       refine hK.out _ _ trivial (fun _ => ?_)
       clear hK K
       try simp only [Act.put, iT, iZ, iS]
       refine nextF 4 (by kernel_rfl) (by rfl) (fun o ho K hK => ?_)
       simp only [gT, gS, gZ, sI] at ho; subst ho
       refine opIn_of (by intro c hc; cases hc) ?_
       go_simp
       refine hK.out _ _ trivial (fun _ => ?_)
       clear hK K
       try simp only [Act.put, iT, iZ, iS]
       refine nextF 11 (by kernel_rfl) (by rfl) (fun o ho K hK => ?_)
       simp only [gT, gS, gZ, sI] at ho; subst ho
       refine opIn_of (by intro c hc; cases hc) ?_
       go_simp
       (go_at_call 202; (with_reducible refine CP.out.mono ?_); rintro e w' ⟨rfl, hw'⟩)
       rw [hw']
       refine hK.out _ _ trivial (fun _ => ?_)
       clear hK K
       try simp only [Act.put, iT, iZ, iS]
       refine takeF rfl (fun _ => trivial) 12 (some 34) (.bool true) (by kernel_rfl) (by kernel_rfl) (by kernel_rfl) (by kernel_rfl) (fun _ _ _ h => h) (by rfl) ?hyd512 trivial ?restd512
       case hyd512 => (intro o ho W hW; simp only [gT, gS, gZ, sI] at ho; subst ho; (try dsimp only at hW); go_simp; try rfl)
       try simp only [Act.put, iT, iZ, iS]
       refine takeF rfl (fun _ => trivial) 13 (some 35) (.bool true) (by kernel_rfl) (by kernel_rfl) (by kernel_rfl) (by kernel_rfl) (fun _ _ _ h => h) (by rfl) ?hyd513 trivial ?restd513
       case hyd513 => (intro o ho W hW; simp only [gT, gS, gZ, sI] at ho; subst ho; (try dsimp only at hW); go_simp; try rfl)
       try simp only [Act.put, iT, iZ, iS]
       refine takeF rfl (fun _ => trivial) 14 (some 36) ?vd514 (by kernel_rfl) (by kernel_rfl) (by kernel_rfl) (by kernel_rfl) (fun _ _ _ h => h) (by rfl) ?hyd514 trivial ?restd514
       case hyd514 => (intro o ho W hW; simp only [gT, gS, gZ, sI] at ho; subst ho; (try dsimp only at hW); go_simp; try rfl)
       try simp only [Act.put, iT, iZ, iS]
       refine nextF 15 (by kernel_rfl) (by rfl) (fun o ho K hK => ?_)
       simp only [gT, gS, gZ, sI] at ho; subst ho
       refine opIn_of (by intro c hc; cases hc) ?_
       go_simp
       refine hK.out _ _ trivial (fun _ => ?_)
       clear hK K
       try simp only [Act.put, iT, iZ, iS]
       refine nextF 16 (by kernel_rfl) (by rfl) (fun o ho K hK => ?_)
       simp only [gT, gS, gZ, sI] at ho; subst ho
       refine ⟨fun _ _ => trivial, ?_⟩
       simp [Oper.semAt, execOp, resolve, invoke, go_sem, hyd]
       refine ⟨fun _ => by omega, hR2.out.mono ?_⟩
       rintro e W3 ⟨bb, rfl, hG⟩
       refine hK.out _ _ trivial (fun _ => ?_)
       clear hK K
       try simp only [Act.put, iT, iZ, iS]
       cases bb with
       | false =>
        refine takeF rfl (fun _ => trivial) 17 (some 39) ?vd5x17 (by kernel_rfl) (by kernel_rfl) (by kernel_rfl) (by kernel_rfl) (fun _ _ _ h => h) (by rfl) ?hyd5x17 trivial ?restd5x17
        case hyd5x17 => (intro o ho W hW; simp only [gT, gS, gZ, sI] at ho; subst ho; (try dsimp only at hW); go_simp; try rfl)
        try simp only [Act.put, iT, iZ, iS]
        refine takeF rfl (fun _ => trivial) 18 (some 40) ?vd5x18 (by kernel_rfl) (by kernel_rfl) (by kernel_rfl) (by kernel_rfl) (fun _ _ _ h => h) (by rfl) ?hyd5x18 trivial ?restd5x18
        case hyd5x18 => (intro o ho W hW; simp only [gT, gS, gZ, sI] at ho; subst ho; (try dsimp only at hW); go_simp; try rfl)
        try simp only [Act.put, iT, iZ, iS]
        refine doneF (by kernel_rfl) ?_ _
        refine NoPanic.normal ?_
        rw [if_neg (by decide)] at hG
        gi_wp2
        refine bodyPost_ret (results_none rfl _ _ _) rfl ?_
        exact ⟨⟨_, rfl⟩, .inr ⟨_, hG⟩⟩
       | true =>
        refine takeF rfl (fun _ => trivial) 17 (some 39) ?vd5y17 (by kernel_rfl) (by kernel_rfl) (by kernel_rfl) (by kernel_rfl) (fun _ _ _ h => h) (by rfl) ?hyd5y17 trivial ?restd5y17
        case hyd5y17 => (intro o ho W hW; simp only [gT, gS, gZ, sI] at ho; subst ho; (try dsimp only at hW); go_simp; try rfl)
        try simp only [Act.put, iT, iZ, iS]
        refine takeF rfl (fun _ => trivial) 18 (some 40) ?vd5y18 (by kernel_rfl) (by kernel_rfl) (by kernel_rfl) (by kernel_rfl) (fun _ _ _ h => h) (by rfl) ?hyd5y18 trivial ?restd5y18
        case hyd5y18 => (intro o ho W hW; simp only [gT, gS, gZ, sI] at ho; subst ho; (try dsimp only at hW); go_simp; try rfl)
        try simp only [Act.put, iT, iZ, iS]
        refine doneF (by kernel_rfl) ?_ _
        refine NoPanic.normal ?_
        rw [if_pos rfl] at hG
        obtain ⟨hJ3, hk3⟩ := hG
        gi_wp2
        go_roundw
        case rel => exact ⟨j + 1, pre ++ [v], by omega, by go_num, Nat.le_trans HS2.out.2.1 hk3.sz, HS2.out.1.trans hk3, ⟨by rw [List.append_assoc]; exact HP2.out⟩, hJ3⟩
        case measure => simp [intOf]; omega
      ·simp only [gT, gS, gZ, sI] at ho; subst ho
       refine opIn_of (by intro c hc; cases hc) ?_
       go_simp
       refine hK.out _ _ trivial (fun _ => ?_)
       clear hK K
       try simp only [Act.put, iT, iZ, iS]
       refine nextF 2 (by kernel_rfl) (by rfl) (fun o ho K hK => ?_)
       simp only [gT, gS, gZ, sI] at ho; subst ho
       refine opIn_of (by intro c hc; cases hc) ?_
       go_simp
       refine hK.out _ _ trivial (fun _ => ?_)
       clear hK K
       try simp only [Act.put, iT, iZ, iS]
       refine nextF 11 (by kernel_rfl) (by rfl) (fun o ho K hK => ?_)
       simp only [gT, gS, gZ, sI] at ho; subst ho
       refine opIn_of (by intro c hc; cases hc) ?_
       go_simp
       (go_at_call 202; (with_reducible refine CP.out.mono ?_); rintro e w' ⟨rfl, hw'⟩)
       rw [hw']
       refine hK.out _ _ trivial (fun _ => ?_)
       clear hK K
       try simp only [Act.put, iT, iZ, iS]
       refine takeF rfl (fun _ => trivial) 12 (some 34) (.bool true) (by kernel_rfl) (by kernel_rfl) (by kernel_rfl) (by kernel_rfl) (fun _ _ _ h => h) (by rfl) ?hyd612 trivial ?restd612
       case hyd612 => (intro o ho W hW; simp only [gT, gS, gZ, sI] at ho; subst ho; (try dsimp only at hW); go_simp; try rfl)
       try simp only [Act.put, iT, iZ, iS]
       refine takeF rfl (fun _ => trivial) 13 (some 35) (.bool true) (by kernel_rfl) (by kernel_rfl) (by kernel_rfl) (by kernel_rfl) (fun _ _ _ h => h) (by rfl) ?hyd613 trivial ?restd613
       case hyd613 => (intro o ho W hW; simp only [gT, gS, gZ, sI] at ho; subst ho; (try dsimp only at hW); go_simp; try rfl)
       try simp only [Act.put, iT, iZ, iS]
       refine takeF rfl (fun _ => trivial) 14 (some 36) ?vd614 (by kernel_rfl) (by kernel_rfl) (by kernel_rfl) (by kernel_rfl) (fun _ _ _ h => h) (by rfl) ?hyd614 trivial ?restd614
       case hyd614 => (intro o ho W hW; simp only [gT, gS, gZ, sI] at ho; subst ho; (try dsimp only at hW); go_simp; try rfl)
       try simp only [Act.put, iT, iZ, iS]
       refine nextF 15 (by kernel_rfl) (by rfl) (fun o ho K hK => ?_)
       simp only [gT, gS, gZ, sI] at ho; subst ho
       refine opIn_of (by intro c hc; cases hc) ?_
       go_simp
       refine hK.out _ _ trivial (fun _ => ?_)
       clear hK K
       try simp only [Act.put, iT, iZ, iS]
       refine nextF 16 (by kernel_rfl) (by rfl) (fun o ho K hK => ?_)
       simp only [gT, gS, gZ, sI] at ho; subst ho
       refine ⟨fun _ _ => trivial, ?_⟩
       simp [Oper.semAt, execOp, resolve, invoke, go_sem, hyd]
       refine ⟨fun _ => by omega, hR2.out.mono ?_⟩
       rintro e W3 ⟨bb, rfl, hG⟩
       refine hK.out _ _ trivial (fun _ => ?_)
       clear hK K
       try simp only [Act.put, iT, iZ, iS]
       cases bb with
       | false =>
        refine takeF rfl (fun _ => trivial) 17 (some 39) ?vd6x17 (by kernel_rfl) (by kernel_rfl) (by kernel_rfl) (by kernel_rfl) (fun _ _ _ h => h) (by rfl) ?hyd6x17 trivial ?restd6x17
        case hyd6x17 => (intro o ho W hW; simp only [gT, gS, gZ, sI] at ho; subst ho; (try dsimp only at hW); go_simp; try rfl)
        try simp only [Act.put, iT, iZ, iS]
        refine takeF rfl (fun _ => trivial) 18 (some 40) ?vd6x18 (by kernel_rfl) (by kernel_rfl) (by kernel_rfl) (by kernel_rfl) (fun _ _ _ h => h) (by rfl) ?hyd6x18 trivial ?restd6x18
        case hyd6x18 => (intro o ho W hW; simp only [gT, gS, gZ, sI] at ho; subst ho; (try dsimp only at hW); go_simp; try rfl)
        try simp only [Act.put, iT, iZ, iS]
        refine doneF (by kernel_rfl) ?_ _
        refine NoPanic.normal ?_
        rw [if_neg (by decide)] at hG
        gi_wp2
        refine bodyPost_ret (results_none rfl _ _ _) rfl ?_
        exact ⟨⟨_, rfl⟩, .inr ⟨_, hG⟩⟩
       | true =>
        refine takeF rfl (fun _ => trivial) 17 (some 39) ?vd6y17 (by kernel_rfl) (by kernel_rfl) (by kernel_rfl) (by kernel_rfl) (fun _ _ _ h => h) (by rfl) ?hyd6y17 trivial ?restd6y17
        case hyd6y17 => (intro o ho W hW; simp only [gT, gS, gZ, sI] at ho; subst ho; (try dsimp only at hW); go_simp; try rfl)
        try simp only [Act.put, iT, iZ, iS]
        refine takeF rfl (fun _ => trivial) 18 (some 40) ?vd6y18 (by kernel_rfl) (by kernel_rfl) (by kernel_rfl) (by kernel_rfl) (fun _ _ _ h => h) (by rfl) ?hyd6y18 trivial ?restd6y18
        case hyd6y18 => (intro o ho W hW; simp only [gT, gS, gZ, sI] at ho; subst ho; (try dsimp only at hW); go_simp; try rfl)
        try simp only [Act.put, iT, iZ, iS]
        refine doneF (by kernel_rfl) ?_ _
        refine NoPanic.normal ?_
        rw [if_pos rfl] at hG
        obtain ⟨hJ3, hk3⟩ := hG
        gi_wp2
        go_roundw
        case rel => exact ⟨j + 1, pre ++ [v], by omega, by go_num, Nat.le_trans HS2.out.2.1 hk3.sz, HS2.out.1.trans hk3, ⟨by rw [List.append_assoc]; exact HP2.out⟩, hJ3⟩
        case measure => simp [intOf]; omega
  ·have hd0 : D.ned ps (vs.drop j) = [] := by rw [List.drop_of_length_le (by have := hlen.out; omega)]; rfl
   have hpe : pre = D.ned ps vs := by have := HP.out; rwa [hd0, List.append_nil] at this
   gi_wp2
   go_end0
   exact ⟨⟨_, rfl⟩, .inl ⟨pre, hpe, hJ⟩⟩
theorem need_stops (n : Nat) (hn : 6 ≤ n) (m : Nat) (hm : m ≤ 1000) (b0 b1 b base : Nat) (p A : Option Addr) (c : Nat) (vs : List D.Vn) (ps : List Nat) (hps : ps.length ≤ 1000) (n0 : Nat) (X : List Nat)
  (w : World) (h0 : w.cell? ⟨b0, 0, none⟩ = some (.pointer p)) (h1 : w.cell? ⟨b1, 0, none⟩ = some (.func (.func 202) #[] #[.pointer (some ⟨b, 0, none⟩)])) (hal : Al w p A m c vs) (hbt : Btw w base b ps)
  (hX1 : b1 < n0 ∧ b1 ∉ X) (hXv : ∀ ad, A = some ad → 0 < m → ad.block < n0 ∧ ad.block ∉ X) (hXb : ∀ q, base ≤ q → q < w.heap.size → q < n0 ∧ q ∉ X) (h0n : n0 ≤ w.heap.size) :
  SeqStopsK Fence.wide n Tryz.prog 204 #[.pointer (some ⟨b0, 0, none⟩), .pointer (some ⟨b1, 0, none⟩)] (fun y : D.Vn => #[.agg (vS.v y)]) (Kq n0 X) (fun ys => ys = D.ned ps vs) (fun _ => True) (D.ned ps vs).length w := fun l J Jx W hW hJ _ hY hJ0 =>
 (need_in n hn m hm l b0 b1 b base p A c vs ps hps n0 X J Jx w W hW h0 h1 hal hbt hX1 hXv hXb h0n hJ hY hJ0).mono fun e W' ⟨h1, h2⟩ => ⟨h1, h2.elim .inl fun ⟨pre, h⟩ => .inr ⟨pre, trivial, h⟩⟩
end Go.Proofs.YtjlaffgbmcpldaaGreatDoor
namespace Go.Proofs.YtjlaffgbmcpldaaGreatDoor
open Go.RowKit Go.Shelf
attribute [local go_sem] Oper.semAt_some
attribute [local go_sem ↓] Go.wp_at_zero Go.wp_at_succ ld_v lv_v st_v ne_v bd_v bs_v ld_w lv_w st_w ne_w bd_w bs_w ld_rh ld_d lv_rh lv_d st_r st_d ne_rh eq_rh ne_d bd_rh bd_d
attribute [local go_sem] run_ldv run_lvv run_stv run_nev run_bdv_z run_bdv_d run_bdv_r run_bsv1 run_bsv0 run_ldw run_lvw run_stw run_new run_bdw_3 run_bsw1 run_bsw0 run_ldrh run_ldd run_lvrh run_lvd run_str run_std run_nerh run_eqrh run_ned run_bdr0 run_bdd0 run_bdr1 run_bdd1 run_bdd9 Shp.rd_new Shp.rd_old Shp.rd_drew Shp.rd_drewN Shp.rd_set Shp.tn_new Shp.tn_old Shp.tn_drew Shp.tn_drewN setRow_alloc vv_0 vv_1 run_fdv0 run_fdv1 run_stf Shp.rd_extk cell_ext
theorem needed_any (p : Option Addr) (b : Nat) (w : World) : Calls Tryz.prog 182 #[.pointer p, .func (.func 202) #[] #[.pointer (some ⟨b, 0, none⟩)]] w fun e w' => e = .returned (.func (.func 204) #[] #[.pointer (some ⟨w.heap.size, 0, none⟩), .pointer (some ⟨w.heap.size + 1, 0, none⟩)]) ∧ w' = (w.alloc (.cells #[.pointer p] 127)).alloc (.cells #[.func (.func 202) #[] #[.pointer (some ⟨b, 0, none⟩)]] 297) := by
 go_enter Tryz.func182, Tryz.ntmps182
 go_wp2
 go_ret
 exact ⟨rfl, rfl⟩
theorem ov_kq {n0 : Nat} {X : List Nat} {w W : World} (h : Ov n0 X w W) : Kq n0 X w W := ⟨h.size, h.block⟩
set_option maxHeartbeats 8000000 in
theorem trim_any {base g c m d : Nat} {w : World} {A B : Option Addr} {l : List D.Vn} (h : Cn base w g A c l) (ps : List Nat) (hr : Row w B m (wds ps)) (hm : m ≤ 1000) (hso : SOk ps) (hbase : base ≤ w.heap.size) :
  Calls Tryz.prog 157 #[.pointer (some ⟨g, 0, none⟩), .slice B m d] w fun e w' => e = .returned (.int .i64 ((l.length - (D.trm ps l).length : Nat))) ∧ ∃ A' c', Cn base w' g A' c' (D.trm ps l) ∧ Only (fun i => i = g) w w' ∧ (∀ i, at_ A' i → w.heap.size ≤ i) := by
 have hps : ps.length = m := by have := hr.len; rwa [wds_len] at this
 refine (callsIn_wide (n := 10)).1 ?_
 refine callsIn_of_wp_marks Tryz.func157 rfl trivial ?_ rfl
 simp only [Tryz.ntmps157, List.size_toArray, List.length_cons, List.length_nil, Nat.reduceAdd, Nat.reduceSub, Array.replicate_succ, Array.replicate_zero, List.push_toArray, List.append_toArray, List.nil_append, List.cons_append]
 have HC := Lib.hid h
 have b0 := below_alloc_ w (.cells #[.slice none 0 0] 187)
 have B0 := Blk.new w 187 #[.slice none 0 0]
 obtain ⟨g5, hg5⟩ : ∃ g5, w.heap.size = g5 := ⟨_, rfl⟩
 obtain ⟨w0, hw0⟩ : ∃ w0, w.alloc (.cells #[.slice none 0 0] 187) = w0 := ⟨_, rfl⟩
 have hz0 : Kept (w0.heap.size = g5 + 1) := ⟨by rw [← hw0, ← hg5]; simp⟩
 rw [hg5] at B0
 rw [hw0] at b0 B0
 have CB := Lib.hid (btw_any B m d ps w0 (hr.on b0) hm hso)
 clear h hr
 gi_wp2
 try rw [hw0]
 refine ⟨trivial, ?_⟩
 refine (callsIn_wide.2 CB.out).mono ?_
 rintro e w1 ⟨b, rfl, hbt, b1⟩
 have HB1 := Lib.hid hbt
 obtain ⟨w2, hw2⟩ : ∃ w2, w1.alloc (.cells #[.func (.func 202) #[] #[.pointer (some ⟨b, 0, none⟩)]] 297) = w2 := ⟨_, rfl⟩
 obtain ⟨g6, hg6⟩ : ∃ g6, w1.heap.size = g6 := ⟨_, rfl⟩
 have b2 : Below w1.heap.size w1 w2 := by rw [← hw2]; exact below_alloc_ _ _
 have B6 : Blk w2 g6 297 #[.func (.func 202) #[] #[.pointer (some ⟨b, 0, none⟩)]] := by rw [← hw2, ← hg6]; exact Blk.new _ _ _
 have c6 := B6.cell
 have CN := Lib.hid (needed_any (some ⟨g, 0, none⟩) b w2)
 clear hbt
 gi_wp2
 try rw [hw2]
 refine ⟨trivial, ?_⟩
 refine (callsIn_wide.2 CN.out).mono ?_
 rintro e w3 ⟨rfl, hw3⟩
 have b3 : Below w2.heap.size w2 w3 := by rw [hw3]; exact (below_alloc_ _ _).alloc (by simp) _
 have c30 : w3.cell? ⟨w2.heap.size, 0, none⟩ = some (.pointer (some ⟨g, 0, none⟩)) := by rw [hw3]; exact ((Blk.new w2 _ _).alloc _).cell
 have c31 : w3.cell? ⟨w2.heap.size + 1, 0, none⟩ = some (.func (.func 202) #[] #[.pointer (some ⟨b, 0, none⟩)]) := by
  rw [hw3]
  simp
 have hz3 : Kept (w3.heap.size = w2.heap.size + 2) := ⟨by rw [hw3]; simp⟩
 clear hw3
 obtain ⟨h0, hh0⟩ : ∃ h0, w2.heap.size = h0 := ⟨_, rfl⟩
 rw [hh0] at c30 c31 hz3
 try rw [hh0]
 have z1 : Below w.heap.size w w1 := below_up b0 b0.size b1
 have z2 := below_up z1 z1.size b2
 have z3 := below_up z2 z2.size b3
 have C3 := Lib.hid (HC.out.on z3)
 have B53 := ((B0.on b1).on b2).on b3
 have B63 := B6.on b3
 have HB3 := Lib.hid ((HB1.out.on b2).on b3)
 have l1000 := HC.out.le
 have hglt : Kept (g < g5) := ⟨by have := HC.out.blk.lt; omega⟩
 have hg5w : Kept (g5 < w3.heap.size ∧ g6 < w3.heap.size ∧ g5 ≠ g6 ∧ g5 < h0 ∧ w0.heap.size = g5 + 1) := ⟨by
  have h1 := B53.lt
  have h2 := B63.lt
  have h3 := b1.size
  have h4 := hz0.out
  have h5 := b2.size
  have h6 := (show w1.heap.size + 1 = w2.heap.size by rw [← hw2]; simp)
  omega⟩
 have HZ := Lib.hid z3
 have hX : ∀ ad, A = some ad → 0 < l.length → ad.block < w3.heap.size ∧ ad.block ∉ [g5] := fun ad e _ => by
  have h1 := (ow_at HC.out.own ⟨ad, e, rfl⟩).2.2
  have h2 := hg5w.out
  exact ⟨by omega, by simp; omega⟩
 have STOPS := need_stops 9 (by decide) l.length l1000 h0 (h0 + 1) b w0.heap.size (some ⟨g, 0, none⟩) A c l ps (by omega) w3.heap.size [g5] w3 c30 c31 C3.out.al HB3.out ⟨by have := hz3.out; omega, by have := hg5w.out; simp; omega⟩ hX (fun q h1 h2 => ⟨h2, by have := hg5w.out; simp; omega⟩) (Nat.le_refl _)
 clear b0 b1 b2 b3 B0 B6 hX z1 z2 z3 c30 c31 c6 hw2 HB1
 gi_wp2
 refine wpIn_rangeFunc_ownH rfl (by decide) (gf := 204) (lb := #[.pointer (some ⟨h0, 0, none⟩), .pointer (some ⟨h0 + 1, 0, none⟩)]) rfl trivial (enters_of Tryz.func204 (by kernel_rfl) rfl)
  STOPS (fun h k => h.trans k) (fun W l o o' h1 h2 h3 _ => Kq.put W l o o' h1 h2 h3) (Below.refl _ _) (fun _ => rfl)
  (fun pre W => Ov w3.heap.size [g5] w3 W ∧ ∃ A' c', Blk W g5 187 #[.slice A' (pre.filter (D.kep ps)).length c'] ∧ Ow 194 11 w3.heap.size W A' (pre.filter (D.kep ps)).length c' (vS.rcs (pre.filter (D.kep ps)))) (fun _ _ _ => False)
  (fun s W W' row hs hg hr => ⟨hs.1.grown (Nat.le_refl _) hg fun r e => .inl (hr r e).1, let ⟨A', c', h1, h2⟩ := hs.2; ⟨A', c', (blk_own (fun _ : List D.Vn => #[.slice A' (s.filter (D.kep ps)).length c'])) s W W' row h1 hg hr, ow_own h2 hg hr⟩⟩) (fun _ _ _ _ _ hs _ _ => hs) ⟨Ov.refl _ _ _, none, 0, B53, Ow.nil _ 11 (Nat.le_refl _)⟩
  (fun y a' W => ∃ gx, w3.heap.size ≤ gx ∧ Blk W gx 194 (vS.v y) ∧ a' = { tmps := #[.pointer (some ⟨g, 0, none⟩), .slice B m d, undef, undef, .int .i64 0, .pointer (some ⟨g5, 0, none⟩), .pointer (some ⟨g6, 0, none⟩), .pointer (some ⟨gx, 0, none⟩), undef, .pointer (some ⟨g, 0, none⟩), .bool false, .slice B m d, .func (.func 202) #[] #[.pointer (some ⟨b, 0, none⟩)], .pointer (some ⟨g, 0, none⟩), .func (.func 202) #[] #[.pointer (some ⟨b, 0, none⟩)], .func (.func 204) #[] #[.pointer (some ⟨h0, 0, none⟩), .pointer (some ⟨h0 + 1, 0, none⟩)], .agg (vS.v y), undef, undef, undef, undef, undef, undef, undef, undef, undef, undef, undef, undef, undef, undef, undef, undef, undef, undef, undef, undef, undef, undef, undef, undef, undef, undef], defers := [] })
  (fun y a' s W W' row ⟨gx, h1, h2, h3⟩ hg hr => ⟨gx, h1, (blk_own (fun _ : Unit => vS.v y)) s W W' row h2 hg hr, h3⟩) ?assign ?body ?done ?stop
 case assign =>
  rintro l0 pre y W K ⟨hO, A', c', h1, h2⟩ hK
  have hsz := hO.size
  gi_wp2
  exact hK _ _ ((KeepsOthers.alloc _ _).from _) (Kq.below (below_alloc_ _ _) hsz) ⟨hO.on (Nat.le_refl _) (below_alloc_ _ _), A', c', h1.alloc _, h2.alloc _⟩ ⟨W.heap.size, hsz, Blk.new _ _ _, rfl⟩
 case body =>
  rintro l0 pre y a' W hl ⟨r, hr⟩ ⟨hO, A', c', hBs, hOw⟩ ⟨gx, hgx, hBy, rfl⟩ hlt
  obtain ⟨k, hk⟩ : ∃ k, pre.filter (D.kep ps) = k := ⟨_, rfl⟩
  have hkl : k.length < 1000 := by
   have h1 := D.ned_len ps l
   have h2 := List.length_filter_le (D.kep ps) pre
   rw [hk] at h2
   omega
  rw [hk] at hBs hOw
  have HK := Lib.hid hk
  clear hk
  have hc := hBs.cell
  have hf := hBs.free
  have fy := Shp.rd_blk (S := vS) hBy
  obtain ⟨y0, y1, -, -⟩ := vf fy
  have hO6 : W.cell? ⟨g6, 0, none⟩ = some (.func (.func 202) #[] #[.pointer (some ⟨b, 0, none⟩)]) := (World.cell?_of_block (hO.block _ hg5w.out.2.1 (by have := hg5w.out; simp; omega))).trans B63.cell
  have hBt : Btw W w0.heap.size b ps := HB3.out.kq (ov_kq hO) fun q h1 h2 => ⟨h2, by have := hg5w.out; simp; omega⟩
  have CP := Lib.hid (btw1_any w0.heap.size b ps 0 y.a W hBt (by omega))
  have HO := Lib.hid hO
  have HW := Lib.hid hOw
  have HBS := Lib.hid hBs
  have HG := Lib.hid hgx
  clear hBt hO hOw hBs hgx
  cases hd : y.d with
  | false =>
   have hke : D.kep ps y = true := by simp [D.kep, hd]
   have hfl : Kept ((pre ++ [y]).filter (D.kep ps) = k ++ [y]) := ⟨by rw [List.filter_append, HK.out, List.filter_cons, hke]; rfl⟩
   rw [hd] at y1
   clear CP hke
   gi_wp2
   refine ⟨fun f h => (by cases h), ?_⟩
   gi_wp2_with (gi_at_builtin; refine gappIn _ Tryz.underlying187 ver_info rfl (by decide) (by decide) rfl (.tmp 26) (.tmp 28) rfl rfl (HW.out.alloc (.cells (vS.v y) 194)) rfl (rw_shp vS W y 194 _ rfl) (vS.one y) (by omega) ?_; intro A1 c1 w6 ho1 hg1; have hb1 := (HBS.out.alloc (.cells (vS.v y) 194)).grown hg1 (fun e => by have := (HW.out.lt _ e.symm).1; have := hg5w.out; omega); have hc1 := hb1.cell; have hf1 := hb1.free)
   have hsz := HO.out.size
   have hz1 := hg1.size
   have hoc := ow_cells (HW.out.alloc (.cells (vS.v y) 194))
   have hO1 : Ov w3.heap.size [g5] w3 w6 := (HO.out.on (Nat.le_refl _) (below_alloc_ W _)).grown (Nat.le_refl _) hg1 (fun r e => .inl (HW.out.lt r e).1)
   refine ⟨?_, ?_, hO1.set (by simp) _, A1, c1, ?_, ?_⟩
   ·exact (((KeepsOthers.alloc W _).trans (KeepsOthers.of_grownBy hg1 fun j o e h => (hoc j o e h).1)).trans (KeepsOthers.setCell _ _ _)).from _
   ·exact ((Kq.below (below_alloc_ W (.cells (vS.v y) 194)) hsz).trans (Kq.grown (by simp; omega) hg1 fun r e => (HW.out.lt r e).1)).trans (Kq.set _ _ _ _ (by simp))
   ·rw [hfl.out, List.length_append]; exact hb1.set_ _
   ·rw [hfl.out, List.length_append, rcs_snoc]
    exact ho1.kept (by simp [World.setCell]) (fun q e => Below.heap_setCell _ _ _ q (by have := (ho1.lt q e).1; have := hg5w.out; show q ≠ g5; omega))
  | true =>
   rw [hd] at y1
   cases hpin : D.pin ps 0 y.a with
   | false =>
    have hke : D.kep ps y = false := by simp [D.kep, hd, hpin]
    have hfl : Kept ((pre ++ [y]).filter (D.kep ps) = k) := ⟨by rw [List.filter_append, HK.out, List.filter_cons, hke]; simp⟩
    rw [hpin] at CP
    clear hke
    gi_wp2
    refine ⟨trivial, ?_⟩
    refine CallsIn.inRound l0 (callsIn_wide.2 (CP.out.mono ?_))
    rintro e w5 ⟨rfl, hw5⟩
    rw [hw5]
    gi_wp2
    exact ⟨(KeepsOthers.refl _).from _, Kq.refl _ _ _, HO.out, A', c', by rw [hfl.out]; exact HBS.out, by rw [hfl.out]; exact HW.out⟩
   | true =>
    have hke : D.kep ps y = true := by simp [D.kep, hd, hpin]
    have hfl : Kept ((pre ++ [y]).filter (D.kep ps) = k ++ [y]) := ⟨by rw [List.filter_append, HK.out, List.filter_cons, hke]; rfl⟩
    rw [hpin] at CP
    clear hke
    gi_wp2
    refine ⟨trivial, ?_⟩
    refine CallsIn.inRound l0 (callsIn_wide.2 (CP.out.mono ?_))
    rintro e w5 ⟨rfl, hw5⟩
    rw [hw5]
    gi_wp2_with (gi_at_builtin; refine gappIn _ Tryz.underlying187 ver_info rfl (by decide) (by decide) rfl (.tmp 26) (.tmp 28) rfl rfl (HW.out.alloc (.cells (vS.v y) 194)) rfl (rw_shp vS W y 194 _ rfl) (vS.one y) (by omega) ?_; intro A1 c1 w6 ho1 hg1; have hb1 := (HBS.out.alloc (.cells (vS.v y) 194)).grown hg1 (fun e => by have := (HW.out.lt _ e.symm).1; have := hg5w.out; omega); have hc1 := hb1.cell; have hf1 := hb1.free)
    have hsz := HO.out.size
    have hz1 := hg1.size
    have hoc := ow_cells (HW.out.alloc (.cells (vS.v y) 194))
    have hO1 : Ov w3.heap.size [g5] w3 w6 := (HO.out.on (Nat.le_refl _) (below_alloc_ W _)).grown (Nat.le_refl _) hg1 (fun r e => .inl (HW.out.lt r e).1)
    refine ⟨?_, ?_, hO1.set (by simp) _, A1, c1, ?_, ?_⟩
    ·exact (((KeepsOthers.alloc W _).trans (KeepsOthers.of_grownBy hg1 fun j o e h => (hoc j o e h).1)).trans (KeepsOthers.setCell _ _ _)).from _
    ·exact ((Kq.below (below_alloc_ W (.cells (vS.v y) 194)) hsz).trans (Kq.grown (by simp; omega) hg1 fun r e => (HW.out.lt r e).1)).trans (Kq.set _ _ _ _ (by simp))
    ·rw [hfl.out, List.length_append]; exact hb1.set_ _
    ·rw [hfl.out, List.length_append, rcs_snoc]
     exact ho1.kept (by simp [World.setCell]) (fun q e => Below.heap_setCell _ _ _ q (by have := (ho1.lt q e).1; have := hg5w.out; show q ≠ g5; omega))
 case done =>
  rintro D0 ys W hD rfl ⟨hO, A', c', hBs, hOw⟩ hK
  have hfe : (D.ned ps l).filter (D.kep ps) = D.trm ps l := rfl
  rw [hfe] at hBs hOw
  have htl : (D.trm ps l).length ≤ l.length := (D.trm_sub ps l).length_le
  have hBg : Blk W g 189 #[.slice A l.length c] := ⟨(hO.block _ (by have := hg5w.out; have := hglt.out; omega) (by have := hglt.out; simp; omega)).trans C3.out.blk.out⟩
  have hc5 := hBs.cell
  have hcg := hBg.cell
  have HBs := Lib.hid hBs
  have HBg := Lib.hid hBg
  have HOw := Lib.hid hOw
  have HO := Lib.hid hO
  have HK := Lib.hid hK
  clear hBs hBg hOw hO hK hfe
  gi_wp2
  refine wpIn_wide.2 ?_
  go_quiet (fail)
  obtain ⟨W2, hW2⟩ : ∃ W2, W.drewN nq = W2 := ⟨_, rfl⟩
  have bW : Below W.heap.size W W2 := by rw [← hW2]; exact ⟨rfl, rfl, rfl, Nat.le_refl _, fun _ _ => rfl⟩
  have B5 := HBs.out.on bW
  have Bg := HBg.out.on bW
  have c5 := B5.cell
  have cg := Bg.cell
  have fg := Bg.free
  have HK2 : Kept (W2.heap[D0]? = some (.deferred (some []))) := ⟨by rw [← hW2]; exact HK.out⟩
  have hz2 : Kept (W2.heap.size = W.heap.size) := ⟨by rw [← hW2]; rfl⟩
  rw [hW2]
  clear hW2
  gi_wp2
  refine ⟨by simp, .inl ⟨_, _, rfl, run_takeDeferred (by rw [Below.heap_setCell _ _ _ _ (by have := hglt.out; have := hg5w.out; show D0 ≠ g; omega)]; exact HK2.out), ?_⟩⟩
  have hoth : ∀ q, q ≠ D0 → ((W2.setCell ⟨g, 0, none⟩ (.slice A' (D.trm ps l).length c')).putObj D0 (.deferred none)).heap[q]? = (W2.setCell ⟨g, 0, none⟩ (.slice A' (D.trm ps l).length c')).heap[q]? := fun q hq => World.putObj_heap_other hq
  have hgD : g ≠ D0 := by have := hglt.out; have := hg5w.out; omega
  have hA3 : ∀ i, at_ A' i → w3.heap.size ≤ i := fun i hi => (ow_at HOw.out hi).2.1
  refine ⟨_, results_tmp rfl _ _ _, ?_, A', c', ?_, ?_, ?_⟩
  ·show Ending.returned (Value.int .i64 ((l.length : Int) - ((D.trm ps l).length : Int))) = _
   rw [show ((l.length : Int) - ((D.trm ps l).length : Int)) = ((l.length - (D.trm ps l).length : Nat) : Int) by omega]
  ·refine ⟨⟨(hoth g hgD).trans (Bg.set_ _).out⟩, ?_, HC.out.gb, HC.out.srt.trm ps, fun v hv => HC.out.wf v ((D.trm_sub ps l).subset hv), by have := HC.out.le; omega⟩
   have o1 := HOw.out.on bW
   have o2 : Ow 194 11 w3.heap.size (W2.setCell ⟨g, 0, none⟩ (.slice A' (D.trm ps l).length c')) A' (D.trm ps l).length c' (vS.rcs (D.trm ps l)) := o1.kept (by simp [World.setCell]) fun q e => Below.heap_setCell _ _ _ q (by have := (o1.lt q e).1; have := hglt.out; have := hg5w.out; show q ≠ g; omega)
   have o3 : Ow 194 11 w3.heap.size ((W2.setCell ⟨g, 0, none⟩ (.slice A' (D.trm ps l).length c')).putObj D0 (.deferred none)) A' (D.trm ps l).length c' (vS.rcs (D.trm ps l)) := o2.kept (by simp [World.putObj]) fun q e => World.putObj_heap_other (fun e' => by
    subst e'
    have h1 := (ow_cells HOw.out q _ e HK.out).1
    cases h1)
   exact ow_base o3 (Nat.le_trans hbase HZ.out.size)
  ·have hb3 := HZ.out
   have ho := HO.out
   refine ⟨?_, ?_, ?_, ?_, fun i hi hg => ?_⟩
   ·show W2.os = w.os
    rw [bW.os, ho.os, hb3.os]
   ·show W2.tape = w.tape
    rw [bW.tape, ho.tape, hb3.tape]
   ·show W2.output = w.output
    rw [bW.output, ho.output, hb3.output]
   ·have h1 := hb3.size
    have h2 := ho.size
    have h3 := bW.size
    simp [World.putObj, World.setCell]
    omega
   ·have h1 := hg5w.out
    have h2 := ho.size
    rw [hoth i (by omega), Below.heap_setCell _ _ _ i (by show i ≠ g; exact hg), bW.block i (by omega), ho.block i (by omega) (by simp; omega), hb3.block i hi]
  ·intro i hi
   have := hA3 i hi
   have := HZ.out.size
   omega
 case stop =>
  rintro D0 c pre W _ _ h _
  exact h.elim
end Go.Proofs.YtjlaffgbmcpldaaGreatDoor
