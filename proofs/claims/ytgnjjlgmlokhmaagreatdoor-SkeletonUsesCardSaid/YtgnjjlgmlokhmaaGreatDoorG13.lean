/-
  
-/
import Derived.Test.YtgnjjlgmlokhmaaGreatDoorG12
import Derived.Test.YtgnjjlgmlokhmaaGreatDoorG09
import Derived.Test.YtgnjjlgmlokhmaaGreatDoorG07
import Derived.Test.YtgnjjlgmlokhmaaGreatDoorG08
import Derived.Test.YtgnjjlgmlokhmaaGreatDoorG06
set_option linter.unusedVariables false
set_option linter.unusedSimpArgs false
set_option maxRecDepth 100000
namespace Go.Proofs.YtgnjjlgmlokhmaaGreatDoor
open Go.RowKit
attribute [local go_sem ↓] Go.wp_at_zero Go.wp_at_succ st_u bd_u
attribute [local go_sem] run_stu run_bdu
theorem rules_any (s : ByteArray) (w : World) : Calls Tryz.prog 130 #[.string s] w fun e w' => ∃ A n c, e = .returned (.slice A n c) ∧ RR w' A n (D.rls (D.grp (D.ns s))) ∧ n <= c ∧ Below w.heap.size w w' := by
 rcases tst_cases s with ⟨i, hi, ht, hg⟩ | ⟨ht, hg⟩
 ·rw [hg]
  rcases (show (i = 0 ∨ i = 1 ∨ i = 2 ∨ i = 3 ∨ i = 4 ∨ i = 5 ∨ i = 6 ∨ i = 7 ∨ i = 15) ∨ (i = 8 ∨ i = 9 ∨ i = 10 ∨ i = 11 ∨ i = 12 ∨ i = 13 ∨ i = 14) by omega) with h | h
  ·exact rules_1 s w i ht h
  ·exact rules_2 s w i ht h
 ·rw [hg]
  exact rules_none s w ht
end Go.Proofs.YtgnjjlgmlokhmaaGreatDoor
namespace Go.Proofs.YtgnjjlgmlokhmaaGreatDoor
open Go.RowKit
attribute [local go_sem ↓] Go.wp_at_zero Go.wp_at_succ ld_a ld_n st_a st_n eq_a eq_n ne_a ne_n lv_a lv_n lp_3 lp_4
attribute [local go_sem] run_ld_a run_ld_n run_sw_a run_sw_n run_eq_a run_eq_n run_ne_a run_ne_n run_lv_a run_lv_n st_z ne_z eq_z rd_new rd_old rd_drew rd_drewN rd_set tn_new tn_old tn_drew tn_drewN setRow_alloc run_lp_3 run_lp_4 rd_ext cell_ext

theorem can_lt {p : D.Pt} (h : D.Can p) : (∀ b ∈ p.l, b < 256) ∧ (∀ b ∈ p.s, b < 256) ∧ (∀ b ∈ p.r, b < 256) :=
 ⟨D.ch_lt (D.can_ch h).1, D.ch_lt (D.can_ch h).2.1, D.ch_lt (D.can_ch h).2.2⟩
end Go.Proofs.YtgnjjlgmlokhmaaGreatDoor
namespace Go.Proofs.YtgnjjlgmlokhmaaGreatDoor
open Go.RowKit
def s3 (a b c a' b' c' : ByteArray) : Bool := decide (a = a' ∧ b = b' ∧ c = c')
attribute [local go_sem ↓] Go.wp_at_zero Go.wp_at_succ


theorem txt_lt' {p : D.Pt} (h1 : ∀ b ∈ p.l, b < 256) (h2 : ∀ b ∈ p.s, b < 256) (h3 : ∀ b ∈ p.r, b < 256) : ∀ b ∈ D.txt p, b < 256 := by
 intro b hb
 unfold D.txt at hb
 split at hb
 ·revert b; decide
 ·rcases List.mem_append.1 hb with hb | hb
  ·exact h1 b hb
  ·rcases List.mem_append.1 hb with hb | hb
   ·split at hb
    ·cases hb
    ·rcases List.mem_cons.1 hb with rfl | hb
     ·decide
     ·exact h2 b hb
   ·split at hb
    ·cases hb
    ·rcases List.mem_cons.1 hb with rfl | hb
     ·decide
     ·exact h3 b hb
end Go.Proofs.YtgnjjlgmlokhmaaGreatDoor
namespace Go.Proofs.YtgnjjlgmlokhmaaGreatDoor
open Go.RowKit
attribute [local go_sem ↓] Go.wp_at_zero Go.wp_at_succ ld_a ld_n st_a st_n eq_a eq_n ne_a ne_n lv_a lv_n lp_3 lp_4 st_u bd_u
attribute [local go_sem] run_ld_a run_ld_n run_sw_a run_sw_n run_eq_a run_eq_n run_ne_a run_ne_n run_lv_a run_lv_n st_z ne_z eq_z rd_new rd_old rd_drew rd_drewN rd_set tn_new tn_old tn_drew tn_drewN setRow_alloc run_lp_3 run_lp_4 run_stu run_bdu

theorem RR.get {w : World} {A : Option Addr} {n : Nat} {l : List (Nat × D.Ts)} (h : RR w A n l) {k : Nat} (hk : k < n) :
  ∃ ad c t v, A = some ad ∧ l[k]? = some (c, t) ∧ w.cell? (ad.add (k * 2)) = some (.int .i64 (c : Nat)) ∧ w.cell? ⟨(ad.add (k * 2)).block, (ad.add (k * 2)).off + 1, none⟩ = some v ∧ FT w v t := by
 have hl : k < l.length := by rw [h.len]; exact hk
 obtain ⟨⟨c, t⟩, hq⟩ : ∃ q, l[k]? = some q := ⟨_, List.getElem?_eq_getElem hl⟩
 obtain ⟨g, v, e, h1, h2, h3⟩ := h.at_ k c t hq
 exact ⟨⟨g, 0, none⟩, c, t, v, e, hq, by rw [add_oo]; exact h1, by rw [add_oo]; exact h2, h3⟩
theorem fst_drop {n k c : Nat} {t : D.Ts} {l : List (Nat × D.Ts)} (h : l[k]? = some (c, t)) : D.fst n (l.drop k) = if t.ev n then c else D.fst n (l.drop (k + 1)) := by
 have hk := (List.getElem?_eq_some_iff.1 h).1
 rw [List.drop_eq_getElem_cons hk]
 have e : l[k] = (c, t) := (List.getElem?_eq_some_iff.1 h).2
 rw [e]
 rfl
theorem below_dn (w : World) (q : Nat) : Below w.heap.size w (w.drewN q) := ⟨rfl, rfl, rfl, Nat.le_refl _, fun _ _ => rfl⟩
def Ans (b : Bool) (w : World) (e : Ending) (w' : World) : Prop := e = .returned (.bool b) ∧ Below w.heap.size w w'
theorem ans_am {n lo hi g h : Nat} {v : Value} {w : World} (f : FA w v lo hi g h) : Calls Tryz.prog 146 #[.int .u64 n, vp g, vp h] w (Ans ((D.Ts.am lo hi).ev n) w) := (am_cl n lo hi g h w f.g f.h).mono fun e w' ⟨h1, h2⟩ => ⟨h1, h2 ▸ Below.refl _ _⟩
theorem ans_re {n d lo hi g h g' h' : Nat} {v : Value} {w : World} (hd : 0 < d) (f : FR w v d lo hi g h g' h') : Calls Tryz.prog 148 #[.int .u64 n, vp g, vp h] w (Ans ((D.Ts.re d lo hi).ev n) w) := by
 obtain rfl := f.e
 exact (re_cl n d lo hi g h g' h' w f hd).mono fun e w' ⟨h1, q, h2⟩ => ⟨h1, h2 ▸ below_dn w q⟩
theorem ans_bu {n d lo hi d' lo' hi' g h g1 h1 g2 h2 k1 l1 k2 l2 : Nat} {v : Value} {w : World} (hd : 0 < d) (hd' : 0 < d') (f : FB w v d lo hi d' lo' hi' g h g1 h1 g2 h2 k1 l1 k2 l2) : Calls Tryz.prog 147 #[.int .u64 n, vp g, vp h] w (Ans ((D.Ts.bu d lo hi d' lo' hi').ev n) w) := by
 obtain rfl := f.e
 exact (bu_cl n d lo hi d' lo' hi' g h g1 h1 g2 h2 k1 l1 k2 l2 w f hd hd').mono fun e w' ⟨h1, q, h2⟩ => ⟨h1, h2 ▸ below_dn w q⟩
theorem ans_al {n : Nat} {w : World} : Calls Tryz.prog 149 #[.int .u64 n] w (Ans (D.Ts.al.ev n) w) := (al_cl n w).mono fun e w' ⟨h1, h2⟩ => ⟨h1, h2 ▸ Below.refl _ _⟩
set_option maxHeartbeats 4000000 in
theorem of_any (x : D.Tg) (n : Nat) (w : World) : Calls Tryz.prog 122 #[.agg (nc x), .int .u64 n] w fun e w' => e = .returned (.int .i64 (D.pof (D.gr x) n : Nat)) ∧ Below w.heap.size w w' := by
 rw [<- D.fst_pof (D.gr_le x) n]
 have f0 := rd_new w w.heap.size 61 x rfl
 have hlt : ∀ b ∈ D.lg x, b < 256 := by
  unfold D.lg
  cases hp : D.pt x with
  | none => decide
  | some p => exact txt_lt' (can_lt (D.pt_some hp).1).1 (fun b hb => by cases hb) (fun b hb => by cases hb)
 have cL := Lib.hid (fun W => language_any x W)
 have cU := fun W => rules_any (D.sb (D.lg x)) W
 rw [D.ns_sb hlt, show D.grp (D.lg x) = D.gr x from rfl] at cU
 obtain ⟨rs, hrs⟩ : ∃ rs, D.rls (D.gr x) = rs := ⟨_, rfl⟩
 obtain ⟨u, hu⟩ : ∃ u, D.sb (D.lg x) = u := ⟨_, rfl⟩
 have hrl : rs.length <= 5 := hrs ▸ D.rls_len _
 rw [hrs] at cU ⊢
 rw [hu] at cU cL
 have CU := Lib.hid cU
 clear cU hrs hu hlt
 go_enter Tryz.func122, Tryz.ntmps122
 go_wp2_with (first
  | (go_at_call 131; (with_reducible refine (cL.out _).mono ?_); rintro e w1 ⟨rfl, b1⟩; have z1 := (Fw.self w).alloc (.cells (nc x) 61) |>.on b1)
  | (go_at_call 130; (with_reducible refine (CU.out _).mono ?_); rintro e w2 ⟨A, m, c, rfl, hR, hmc, b2⟩; have z2 := z1.on b2))
 clear cL CU f0 z1
 have hm5 : m <= 5 := by have := hR.len; omega
 go_loopw [11] (fun i wr => ∃ k : Nat, k <= m ∧ i = .int .i64 k ∧ Kept (RR wr A m rs) ∧ Kept (D.fst n rs = D.fst n (rs.drop k)) ∧ Fw w wr) (fun i _ => m - (intOf i).toNat)
 case atStart => exact ⟨0, Nat.zero_le _, rfl, ⟨hR⟩, ⟨rfl⟩, z2⟩
 case round =>
  obtain ⟨k, hk, rfl, HR, HF, zr⟩ := hrel
  clear z2
  by_cases hlt : k < m
  ·clear hR
   obtain ⟨ad, q, t, v, rfl, hq, q0, q1, ft⟩ := HR.out.get hlt
   have hI : (k : Int) < m := by omega
   have one := ft.one
   have ft' := ft.on (below_alloc_ wr (.cells #[.int .i64 q, v] 201))
   have HR' : Kept (RR (wr.alloc (.cells #[.int .i64 q, v] 201)) (some ad) m rs) := ⟨HR.out.on (below_alloc_ _ _)⟩
   have zr' := zr.alloc (.cells #[.int .i64 q, v] 201)
   have hfd := fst_drop (n := n) hq
   rw [<- HF.out] at hfd
   have hbl : ad.block < wr.heap.size := by
    have := World.block_lt_of_cell? wr _ q0
    rwa [block_of_add] at this
   have c0 : (wr.alloc (.cells #[.int .i64 q, v] 201)).cell? ⟨wr.heap.size, 0, none⟩ = some (.int .i64 q) := (Blk.new wr 201 #[.int .i64 q, v]).c 0
   clear HR HF zr ft hq
   cases t with
   | am lo hi =>
    obtain ⟨g, h, f⟩ := ft'
    obtain rfl := f.e
    have C := ans_am (n := n) f
    obtain ⟨b, hb⟩ : ∃ b, (D.Ts.am lo hi).ev n = b := ⟨_, rfl⟩
    rw [hb] at C hfd
    have CC := Lib.hid C
    have HF := Lib.hid hfd
    clear f C hfd hb
    cases b
    ·go_wp2_with (go_at_call 146; (with_reducible refine CC.out.mono ?_); rintro e w3 ⟨rfl, b3⟩; have HR3 : Kept _ := ⟨HR'.out.on b3⟩; have z3 := zr'.on b3)
     go_roundw
     case rel => exact ⟨k + 1, by omega, by go_num, HR3, ⟨by simpa using HF.out⟩, z3⟩
     case measure => simp [intOf]; omega
    ·go_wp2_with (go_at_call 146; (with_reducible refine CC.out.mono ?_); rintro e w3 ⟨rfl, b3⟩; have z3 := zr'.on b3; have c3 := (b3.cell (p := ⟨wr.heap.size, 0, none⟩) (by show wr.heap.size < _; simp)).trans c0)
     go_ret
     exact ⟨by rw [HF.out]; rfl, z3.below⟩
   | re d lo hi =>
    obtain ⟨hd, g, h, g', h', f⟩ := ft'
    obtain rfl := f.e
    have C := ans_re (n := n) hd f
    obtain ⟨b, hb⟩ : ∃ b, (D.Ts.re d lo hi).ev n = b := ⟨_, rfl⟩
    rw [hb] at C hfd
    have CC := Lib.hid C
    have HF := Lib.hid hfd
    clear f C hfd hb
    cases b
    ·go_wp2_with (go_at_call 148; (with_reducible refine CC.out.mono ?_); rintro e w3 ⟨rfl, b3⟩; have HR3 : Kept _ := ⟨HR'.out.on b3⟩; have z3 := zr'.on b3)
     go_roundw
     case rel => exact ⟨k + 1, by omega, by go_num, HR3, ⟨by simpa using HF.out⟩, z3⟩
     case measure => simp [intOf]; omega
    ·go_wp2_with (go_at_call 148; (with_reducible refine CC.out.mono ?_); rintro e w3 ⟨rfl, b3⟩; have z3 := zr'.on b3; have c3 := (b3.cell (p := ⟨wr.heap.size, 0, none⟩) (by show wr.heap.size < _; simp)).trans c0)
     go_ret
     exact ⟨by rw [HF.out]; rfl, z3.below⟩
   | bu d lo hi d' lo' hi' =>
    obtain ⟨hd, hd', g, h, g1, h1, g2, h2, k1, l1, k2, l2, f⟩ := ft'
    obtain rfl := f.e
    have C := ans_bu (n := n) hd hd' f
    obtain ⟨b, hb⟩ : ∃ b, (D.Ts.bu d lo hi d' lo' hi').ev n = b := ⟨_, rfl⟩
    rw [hb] at C hfd
    have CC := Lib.hid C
    have HF := Lib.hid hfd
    clear f C hfd hb
    cases b
    ·go_wp2_with (go_at_call 147; (with_reducible refine CC.out.mono ?_); rintro e w3 ⟨rfl, b3⟩; have HR3 : Kept _ := ⟨HR'.out.on b3⟩; have z3 := zr'.on b3)
     go_roundw
     case rel => exact ⟨k + 1, by omega, by go_num, HR3, ⟨by simpa using HF.out⟩, z3⟩
     case measure => simp [intOf]; omega
    ·go_wp2_with (go_at_call 147; (with_reducible refine CC.out.mono ?_); rintro e w3 ⟨rfl, b3⟩; have z3 := zr'.on b3; have c3 := (b3.cell (p := ⟨wr.heap.size, 0, none⟩) (by show wr.heap.size < _; simp)).trans c0)
     go_ret
     exact ⟨by rw [HF.out]; rfl, z3.below⟩
   | al =>
    obtain rfl : v = fL := ft'
    have C := ans_al (n := n) (w := wr.alloc (.cells #[.int .i64 q, fL] 201))
    obtain ⟨b, hb⟩ : ∃ b, (D.Ts.al).ev n = b := ⟨_, rfl⟩
    rw [hb] at C hfd
    have CC := Lib.hid C
    have HF := Lib.hid hfd
    clear C hfd hb
    cases b
    ·go_wp2_with (go_at_call 149; (with_reducible refine CC.out.mono ?_); rintro e w3 ⟨rfl, b3⟩; have HR3 : Kept _ := ⟨HR'.out.on b3⟩; have z3 := zr'.on b3)
     go_roundw
     case rel => exact ⟨k + 1, by omega, by go_num, HR3, ⟨by simpa using HF.out⟩, z3⟩
     case measure => simp [intOf]; omega
    ·go_wp2_with (go_at_call 149; (with_reducible refine CC.out.mono ?_); rintro e w3 ⟨rfl, b3⟩; have z3 := zr'.on b3; have c3 := (b3.cell (p := ⟨wr.heap.size, 0, none⟩) (by show wr.heap.size < _; simp)).trans c0)
     go_ret
     exact ⟨by rw [HF.out]; rfl, z3.below⟩
  ·obtain rfl : k = m := by omega
   have e5 : D.fst n (rs.drop k) = 5 := by rw [List.drop_of_length_le (by rw [hR.len]; exact Nat.le_refl _)]; rfl
   have HF' := Lib.hid (HF.out.trans e5)
   clear HF HR hR e5
   go_wp2
   go_ret
   exact ⟨by rw [HF'.out]; rfl, zr.below⟩
end Go.Proofs.YtgnjjlgmlokhmaaGreatDoor
