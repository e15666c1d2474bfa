/-
  
-/
import Derived.Test.YtgnjjlgmlokhmaaGreatDoorG35
import Derived.Test.YtgnjjlgmlokhmaaGreatDoorG17
import Derived.BigQuiet
import Derived.Shelf.SlSortCmp.NoneTotal
import Derived.Test.YtgnjjlgmlokhmaaGreatDoorProg
set_option linter.unusedVariables false
set_option linter.unusedSimpArgs false
set_option maxRecDepth 100000
namespace Go.Proofs.YtgnjjlgmlokhmaaGreatDoor
open Go.RowKit
attribute [local go_sem ↓] Go.wp_at_zero Go.wp_at_succ

section
variable (s : ByteArray) (l : List Nat) (hl : D.ns s = l) (hs : s.size <= 60) (i d : Nat) (hi : i <= s.size) (v : Bool) (r : Nat) (o : D.Ot) (w : World)
include hl hs hi
set_option maxHeartbeats 4000000 in
theorem place_c4 (K : Nat) (hK : D.far D.wdB l i = K) (h1 : K ≠ i) (h2 : Nm.D.isB (D.sub l i K) = true) (h4 : l[K]? = some 44) (J Q : Nat) (hJ : D.far (· == 32) l (K + 1) = J) (hQ : D.far D.wdB l J = Q) (h5 : Q ≠ J) (h6 : D.sub l J Q = D.selT) (h7 : d < 3) (h8 : l[Q]? = some 44) (mm : Nat -> D.Ot)
  (hm : ∀ q W, q <= s.size -> Calls Tryz.prog 13 #[.string s, .int .i64 q, .int .i64 ((d : Int) + 1), .bool v] W (Mt r (mm q) W))
  (hg : ∀ q, q <= s.size -> (mm q).e = 0 -> q <= (mm q).a ∧ (mm q).a <= s.size)
  (ho : D.cas l 4 (D.sub l i K) mm (l.length + 1) (D.far (· == 32) l (Q + 1)) [] [] = o) :
  Calls Tryz.prog 29 #[.string s, .int .i64 i, .int .i64 d, .bool v] w (Mt (r + 1) o w) := by
 have R1 := Lib.hid (fun W => run_any s i W hi (by omega))
 rw [hl, hK] at R1
 have hKi : i <= K := by rw [<- hK]; exact D.far_ge _ _ _
 have hKs : K <= s.size := by rw [<- hK, <- D.ns_len s, hl]; exact D.far_le (by rw [<- hl, D.ns_len]; exact hi)
 have i1 : ((K : Int) == i) = false := by rw [beq_eq_false_iff_ne]; omega
 have iK : (i : Int) <= K := by omega
 have iS : (K : Int) <= s.size := by omega
 have RI := Lib.hid (fun W => Nm.ref_is (s.extract i K) W)
 rw [ns_ext, hl] at RI
 rw [h2] at RI
 have RA := Lib.hid (fun W => at_any s K W)
 rw [hl] at RA
 rw [D.atI_some h4] at RA
 have hK1 : K + 1 <= s.size := by have := (List.getElem?_eq_some_iff.1 h4).1; rw [<- D.ns_len s, hl]; omega
 have hJs : J <= s.size := by rw [<- hJ, <- D.ns_len s, hl]; exact D.far_le (by rw [<- hl, D.ns_len]; exact hK1)
 have RS : Hid (∀ W, Calls Tryz.prog 53 #[.string s, .int .i64 ((K : Int) + 1)] W fun e w' => e = .returned (.int .i64 (J : Int)) ∧ W = w') := Lib.hid (fun W => by have := skip_any s (K + 1) W hK1 (by omega); rw [hl, hJ] at this; exact this)
 have R2 := Lib.hid (fun W => run_any s J W hJs (by omega))
 rw [hl, hQ] at R2
 have hJQ : J <= Q := by rw [<- hQ]; exact D.far_ge _ _ _
 have hQs : Q <= s.size := by rw [<- hQ, <- D.ns_len s, hl]; exact D.far_le (by rw [<- hl, D.ns_len]; exact hJs)
 have i5 : ((Q : Int) == J) = false := by rw [beq_eq_false_iff_ne]; omega
 have iJ : (J : Int) <= Q := by omega
 have iT : (Q : Int) <= s.size := by omega
 have T2 := txt_lit (s.extract J Q) [110, 117, 109, 98, 101, 114] D.numT rfl
 have T3 := txt_lit (s.extract J Q) [112, 108, 117, 114, 97, 108] D.pluT rfl
 have T4 := txt_lit (s.extract J Q) [115, 101, 108, 101, 99, 116] D.selT rfl
 rw [ns_ext, hl] at T2 T3 T4
 have n2 : D.sub l J Q ≠ D.numT := by rw [h6]; decide
 rw [decide_eq_false n2] at T2
 have n3 : D.sub l J Q ≠ D.pluT := by rw [h6]; decide
 rw [decide_eq_false n3] at T3
 rw [h6, decide_eq_true rfl] at T4
 clear n3
 have i7 : (d : Int) < 3 := by omega
 have RB := Lib.hid (fun W => at_any s Q W)
 rw [hl, D.atI_some h8] at RB
 have hQ1 : Q + 1 <= s.size := by have := (List.getElem?_eq_some_iff.1 h8).1; rw [<- D.ns_len s, hl]; omega
 have hlen : l.length = s.size := by rw [<- hl, D.ns_len]
 obtain ⟨I0, hI0⟩ : ∃ I0, D.far (· == 32) l (Q + 1) = I0 := ⟨_, rfl⟩
 have hIs : I0 <= s.size := by rw [<- hI0, <- hlen]; exact D.far_le (by rw [hlen]; exact hQ1)
 have RT : Hid (∀ W, Calls Tryz.prog 53 #[.string s, .int .i64 ((Q : Int) + 1)] W fun e w' => e = .returned (.int .i64 (I0 : Int)) ∧ W = w') := Lib.hid (fun W => by have := skip_any s (Q + 1) W hQ1 (by omega); rw [hl, hI0] at this; exact this)
 obtain ⟨K0, hK0⟩ : ∃ K0, D.far D.wdB l I0 = K0 := ⟨_, rfl⟩
 have R3 := Lib.hid (fun W => run_any s I0 W hIs (by omega))
 rw [hl, hK0] at R3
 have hE := Lib.hid (ext_sub s i K)
 rw [hl] at hE
 have hbt := Lib.hid (sub_lt (ns_lt s) i K)
 rw [hl] at hbt
 have H2 := Lib.hid (ns_lt s)
 rw [hl] at H2
 have HX := Lib.hid (fun i k => ext_sub s i k)
 rw [hl] at HX
 have HN := Lib.hid (fun i k => ns_ext s i k)
 rw [hl] at HN
 have cA := Lib.hid (fun k W => at_any s k W)
 rw [hl] at cA
 have cR := Lib.hid (fun k W (h : k <= s.size) => run_any s k W h (by omega))
 rw [hl] at cR
 have cS := Lib.hid (fun k W (h : k <= s.size) => skip_any s k W h (by omega))
 rw [hl] at cS
 have cM := Lib.hid hm
 have cG := Lib.hid hg
 rw [hI0, hlen] at ho
 obtain ⟨nm, hnm⟩ : ∃ nm, D.sub l i K = nm := ⟨_, rfl⟩
 rw [hnm] at ho hE hbt
 have HO := Kept.mk ho
 have HK0 := Kept.mk hK0
 clear hm hg ho hl hK h2 h4 hJ hQ h6 h8 n2 hnm hK0 hI0
 go_enter Tryz.func29, Tryz.ntmps29
 go_wp2_with (first
  | (go_at_call 51; (with_reducible refine (R1.out _).mono ?_); rintro e w1 ⟨rfl, rfl⟩)
  | (go_at_call 51; (with_reducible refine (R2.out _).mono ?_); rintro e w1 ⟨rfl, rfl⟩)
  | (go_at_call 52; (with_reducible refine (RI.out _).mono ?_); rintro e w1 ⟨rfl, rfl⟩)
  | (go_at_call 28; (with_reducible refine (RA.out _).mono ?_); rintro e w1 ⟨rfl, rfl⟩)
  | (go_at_call 53; (with_reducible refine (RS.out _).mono ?_); rintro e w1 ⟨rfl, rfl⟩)
  | (go_at_call 28; (with_reducible refine (RB.out _).mono ?_); rintro e w1 ⟨rfl, rfl⟩)
  | (go_at_call 53; (with_reducible refine (RT.out _).mono ?_); rintro e w1 ⟨rfl, rfl⟩)
  | (go_at_call 51; (with_reducible refine (R3.out _).mono ?_); rintro e w1 ⟨rfl, rfl⟩))
 go_loopw [1, 9] (fun a b wr => ∃ (I L n c m e f : Nat) (A B : Option Addr) (ws : List (List Nat)) (ks : List (List D.Nd)), I <= s.size ∧ a = .int .i64 I ∧ b = .int .i64 L ∧ Kept (D.far D.wdB l I = L) ∧ n <= I ∧ m <= I ∧ Kept (s.size < I + f ∧ D.cas l 4 nm mm f I ws ks = o) ∧ Cz r (w.heap.size + 2) (w.heap.size + 1) wr 4 nm A n c B m e ws ks ∧ Blk wr w.heap.size 51 #[.slice none 0 0, .int .i64 0, .int .i64 0] ∧ Below w.heap.size w wr) (fun i _ _ => s.size - (intOf i).toNat)
 case atStart =>
  refine ⟨I0, K0, 0, 0, 0, 0, s.size + 1, none, none, [], [], hIs, rfl, rfl, HK0, Nat.zero_le _, Nat.zero_le _, ⟨by omega, HO.out⟩, ⟨⟨?_⟩, by omega, Ow.nil _ _ (by simp), ⟨[], Ow.nil _ _ (by simp), rfl, (fun u h => by cases h), fun j u q h => by simp at h⟩, fun w h => by cases h⟩, ⟨?_⟩, ((Below.refl _ _).alloc (Nat.le_refl _) _).alloc (by simp) _⟩
  ·rw [hE.out]
   exact heap_new (by simp)
  ·exact ((Blk.new w _ _).alloc _).out
 case round =>
  obtain ⟨I, L, n, c, m, e, f, A, B, ws, ks, hI, rfl, rfl, HL, hn, hmI, HF, hcz, hblk, hbel⟩ := hrel
  obtain ⟨g, rfl⟩ : ∃ g, f = g + 1 := ⟨f - 1, by have := HF.out.1; omega⟩
  have hIL : I <= L := by rw [<- HL.out]; exact D.far_ge _ _ _
  have hLs : L <= s.size := by rw [<- HL.out, <- hlen]; exact D.far_le (by rw [hlen]; exact hI)
  have hp := HF.out.2
  rw [D.cas_eq HL.out] at hp
  have hfu := HF.out.1
  have HC := Lib.hid hcz
  have HB := Lib.hid hblk
  have HZ := Lib.hid hbel
  have pc := hcz.blk.c
  have pf := hcz.blk.f
  have cc := hblk.c
  have cf := hblk.f
  have hgs := hcz.blk.lt
  have hws := hblk.lt
  have RA1 := Lib.hid (fun W => cA.out I W)
  clear HF hcz hblk hbel
  by_cases h1 : L = I
  ·subst h1
   rw [if_pos rfl] at hp
   by_cases h2 : l[L]? = some 125
   ·rw [if_neg (by simp [h2])] at hp
    rw [D.atI_some h2] at RA1
    have hfd := Lib.hid (fun W (h : Rw 1 W A n (strs ws)) => find_any A n c ws ⟨#[111, 116, 104, 101, 114]⟩ W h HC.out.b8 (by omega))
    rw [show D.ns ⟨#[111, 116, 104, 101, 114]⟩ = D.othT from rfl] at hfd
    have hrw := HC.out.wds.to_row
    by_cases h3 : D.othT ∈ ws
    ·rw [if_neg (by simp [h3])] at hp
     have HP := Kept.mk hp
     have i3 : 0 <= D.fnd ws D.othT := by unfold D.fnd; rw [if_pos h3]; omega
     obtain ⟨z, hz⟩ : ∃ z, D.fnd ws D.othT = z := ⟨_, rfl⟩
     rw [hz] at i3 hfd
     have HR := Lib.hid hrw
     clear hp h2 h3 hz hrw
     go_wp2_with (first
      | (go_at_call 28; (with_reducible refine (RA1.out _).mono ?_); rintro e w1 ⟨rfl, rfl⟩)
      | (go_at_call 55; (with_reducible refine (hfd.out _ HR.out).mono ?_); rintro e w1 ⟨rfl, rfl⟩))
     have HBL := HC.out.bel (F := fun q => w.heap.size + 2 <= q) hbt.out fun _ h => h
     refine bodyPost_ret (v := .agg #[.slice (some ⟨wr.heap.size, 0, none⟩) 1 1, .int .i64 ((L : Int) + 1), .int .i64 0]) (by simp [results, Tryz.results29, go_sem, cc, cf, hws]) rfl (mt_one (p := .slice A n c) (q := .slice B m e) HP.out.symm (by (repeat (first | exact HZ.out | refine Below.setCell ?_ (by first | omega | (simp; done) | (simp; omega)) _ | refine Below.alloc ?_ (by first | omega | (simp; done) | (simp; omega)) _))) (by simp [pcl, D.Nd.k, D.Nd.t, D.Nd.n]; rfl) (heap_new (by simp)) (by omega) rfl rfl ?_)
     exact ((((HBL.keep (keeps_setCell _ _ _ fun b hb => by simp; omega)).keep (keeps_setCell _ _ _ fun b hb => by simp; omega)).keep (keeps_setCell _ _ _ fun b hb => by simp; omega)).keep (keeps_below ((Below.refl _ _).alloc (Nat.le_refl _) _))).weaken fun b _ hb => by omega
    ·rw [if_pos h3] at hp
     have HP := Kept.mk hp
     have i3 : D.fnd ws D.othT < 0 := by unfold D.fnd; rw [if_neg h3]; omega
     obtain ⟨z, hz⟩ : ∃ z, D.fnd ws D.othT = z := ⟨_, rfl⟩
     rw [hz] at i3 hfd
     have HR := Lib.hid hrw
     clear hp h2 h3 hz hrw
     go_wp2_with (first
      | (go_at_call 28; (with_reducible refine (RA1.out _).mono ?_); rintro e w1 ⟨rfl, rfl⟩)
      | (go_at_call 55; (with_reducible refine (hfd.out _ HR.out).mono ?_); rintro e w1 ⟨rfl, rfl⟩))
     exact bodyPost_ret (v := .agg #[.slice none 0 0, .int .i64 L, .int .i64 13]) (by simp [results, Tryz.results29, go_sem, cc, cf]) rfl (mt_err HP.out.symm (by (repeat (first | exact HZ.out | refine Below.setCell ?_ (by first | omega | (simp; done) | (simp; omega)) _ | refine Below.alloc ?_ (by first | omega | (simp; done) | (simp; omega)) _))))
   ·rw [if_pos h2] at hp
    have HP := Kept.mk hp
    obtain ⟨x, hx⟩ : ∃ x, D.atI l L = x := ⟨_, rfl⟩
    rw [hx] at RA1
    have i2 : (x != 125) = true := by rw [bne_iff_ne, <- hx]; exact fun h => h2 (D.atI_is h)
    clear hp h2 hx
    go_wp2_with (go_at_call 28; (with_reducible refine (RA1.out _).mono ?_); rintro e w1 ⟨rfl, rfl⟩)
    exact bodyPost_ret (v := .agg #[.slice none 0 0, .int .i64 L, .int .i64 3]) (by simp [results, Tryz.results29, go_sem, cc, cf]) rfl (mt_err HP.out.symm (by (repeat (first | exact HZ.out | refine Below.setCell ?_ (by first | omega | (simp; done) | (simp; omega)) _ | refine Below.alloc ?_ (by first | omega | (simp; done) | (simp; omega)) _))))
  ·rw [if_neg h1] at hp
   have iL : (I : Int) < L := by omega
   have iS2 : (L : Int) <= s.size := by omega
   obtain ⟨y, hy⟩ : ∃ y, D.lgl 4 (D.sub l I L) ws = y := ⟨_, rfl⟩
   have CL : Hid (∀ W (h : Rw 1 W A n (strs ws)), Calls Tryz.prog 54 #[.int .i64 4, .string (s.extract I L), .slice A n c] W fun e w' => e = .returned (.int .i64 (y : Nat)) ∧ Below W.heap.size W w') := Lib.hid (fun W h => by have := legal_any 4 (s.extract I L) A n c ws W (by omega) h HC.out.b8 (by omega); rw [HN.out, hy] at this; exact this)
   rw [hy] at hp
   have hrw := Lib.hid HC.out.wds.to_row
   by_cases h2 : y = 0
   ·subst h2
    rw [if_neg (by simp)] at hp
    by_cases h3 : l[L]? = some 123
    ·rw [if_neg (by simp [h3])] at hp
     have RA2 := Lib.hid (fun W => cA.out L W)
     rw [D.atI_some h3] at RA2
     have hL1 : L + 1 <= s.size := by have := (List.getElem?_eq_some_iff.1 h3).1; omega
     have CM : Hid (∀ W, Calls Tryz.prog 13 #[.string s, .int .i64 ((L : Int) + 1), .int .i64 ((d : Int) + 1), .bool v] W (Mt r (mm (L + 1)) W)) := Lib.hid (fun W => cM.out (L + 1) W hL1)
     have CG := Lib.hid (cG.out (L + 1) hL1)
     obtain ⟨z, hz⟩ : ∃ z, mm (L + 1) = z := ⟨_, rfl⟩
     rw [hz] at hp CM CG
     have hp := Kept.mk hp
     clear h3 hy hz
     go_upto_region 40 with (first
      | (go_at_call 28; (with_reducible refine (RA2.out _).mono ?_); rintro e w2 ⟨rfl, rfl⟩)
      | (go_at_call 54; (with_reducible refine (CL.out _ hrw.out).mono ?_); rintro e w1 ⟨rfl, b1⟩; have HB1 := Lib.hid (HB.out.on b1); have HC1 := Lib.hid (HC.out.on b1); have Z1 := Lib.hid (HZ.out.trans (b1.mono HZ.out.size)); have p1 := HC1.out.blk.c; have q1 := HC1.out.blk.f; clear b1))
     go_cut [13] from 130 to 141 (fun s13 wx => ∃ (A4 : Option Addr) (n4 c4 : Nat) (w2 : World), s13 = .pointer (some ⟨w2.heap.size, 0, none⟩) ∧ wx = w2.alloc (.cells #[.slice A4 n4 c4, .int .i64 (z.a : Nat), .int .i64 (z.e : Nat)] 51) ∧ Below w1.heap.size w1 w2 ∧ Ms (fun b => w1.heap.size <= b) w2 r (.slice A4 n4 c4) z.l)
     case first =>
      cases v
      ·go_wp2_with (go_at_call 13; (with_reducible refine (CM.out _).mono ?_); rintro e w2 ⟨b2, A4, n4, c4, rfl, hm4⟩; have HM4 := Lib.hid hm4; have Hb2 := Lib.hid b2; clear b2 hm4)
       go_meet
       exact ⟨A4, n4, c4, w2, rfl, rfl, Hb2.out, HM4.out⟩
      ·go_wp2_with (go_at_call 13; (with_reducible refine (CM.out _).mono ?_); rintro e w2 ⟨b2, A4, n4, c4, rfl, hm4⟩; have HM4 := Lib.hid hm4; have Hb2 := Lib.hid b2; clear b2 hm4)
       go_meet
       exact ⟨A4, n4, c4, w2, rfl, rfl, Hb2.out, HM4.out⟩
     case rest =>
      obtain ⟨A4, n4, c4, w2, rfl, rfl, b2, hm4⟩ := hcut
      have HM4 := Lib.hid hm4
      have HB2 := Lib.hid (HB1.out.on b2)
      have HC2 := Lib.hid (HC1.out.on b2)
      have Z2 := Lib.hid (Z1.out.trans (b2.mono Z1.out.size))
      have c2 := HB2.out.c
      have f2 := HB2.out.f
      have p2 := HC2.out.blk.c
      have q2 := HC2.out.blk.f
      have hw2 := HB2.out.lt
      have hg2 := HC2.out.blk.lt
      have hs2 := b2.size
      clear b2 hm4 p1 q1 CM
      by_cases h4 : z.e = 0
      ·have hp1 := hp.out
       rw [if_neg (by simp [h4])] at hp1
       obtain ⟨g1, g2⟩ := CG.out h4
       have i4 : ((z.e : Int) != 0) = false := by simp [h4]
       have RA3 := Lib.hid (fun W => cA.out z.a W)
       by_cases h5 : l[z.a]? = some 125
       ·rw [if_neg (by simp [h5])] at hp1
        rw [D.atI_some h5] at RA3
        have g3 : z.a + 1 <= s.size := by have := (List.getElem?_eq_some_iff.1 h5).1; omega
        obtain ⟨I', hI'⟩ : ∃ I', D.far (· == 32) l (z.a + 1) = I' := ⟨_, rfl⟩
        have gI : z.a + 1 <= I' := by rw [<- hI']; exact D.far_ge _ _ _
        have gs : I' <= s.size := by rw [<- hI', <- hlen]; exact D.far_le (by rw [hlen]; exact g3)
        have RU : Hid (∀ W, Calls Tryz.prog 53 #[.string s, .int .i64 ((z.a : Int) + 1)] W fun e w' => e = .returned (.int .i64 (I' : Int)) ∧ W = w') := Lib.hid (fun W => by have := cS.out (z.a + 1) W g3; rw [hI'] at this; exact this)
        have RV := Lib.hid (fun W => cR.out I' W gs)
        rw [hI'] at hp1
        have HP := Kept.mk hp1
        have HW : Kept (∀ b ∈ D.sub l I L, b < 256) := ⟨sub_lt H2.out I L⟩
        have HBO : Kept (∀ q, (Value.slice B m e).ownBlock = some q -> q < w2.heap.size) := ⟨by obtain ⟨us, hu, _⟩ := HC2.out.kds; exact fun q hq => (hu.lt q hq).2⟩
        obtain ⟨ln, lm⟩ := HC2.out.lens
        have HNL := Lib.hid ln
        have HML := Lib.hid lm
        clear hp hp1 h4 h5 hI' CG ln lm
        go_wp2_with (first
         | (go_at_call 28; (with_reducible refine (RA3.out _).mono ?_); rintro e w3 ⟨rfl, rfl⟩)
         | (at_builtin; refine gapp _ str_under str_inf8 rfl (by decide) (by decide) rfl (.tmp 155) (.tmp 157) rfl rfl ((HC2.out.wds.alloc _).alloc _) rfl (rw_one (w2.alloc _) _ (by simp) 9 (.string (s.extract I L))) (fun u h => by simp at h; rw [h]; rfl) (by omega) ?_; intro A5 c5 w3 h3 hg3 hor3
            have HC3 := Lib.hid ((HC2.out.on ((Below.refl _ _).alloc (Nat.le_refl _) (.cells #[.slice A4 n4 c4, .int .i64 (z.a : Nat), .int .i64 (z.e : Nat)] 51))).on ((Below.refl _ _).alloc (Nat.le_refl _) (.cells #[.string (s.extract I L)] 9)))
            have P3 := Lib.hid (HC3.out.blk.grown hg3 (fun e => by have := (HC2.out.wds.lt _ e.symm).1; omega))
            have O3 := Lib.hid (((Blk.new w2 51 #[.slice A4 n4 c4, .int .i64 (z.a : Nat), .int .i64 (z.e : Nat)]).alloc (.cells #[.string (s.extract I L)] 9)).grown hg3 (fun e => by have := (HC2.out.wds.lt _ e.symm).2; omega))
            have p3 := P3.out.c
            have q3 := P3.out.f
            have o3 := O3.out.c
            have hs3 : w2.heap.size + 2 <= w3.heap.size := by have := hg3.size; simpa using this
            have HC4 := Lib.hid (HC3.out.word hg3 hor3 (t := D.sub l I L) (by rw [HX.out] at h3; exact h3) HW.out)
            have HG3 := Lib.hid hg3
            have HR3 := Lib.hid hor3
            clear h3 hg3 hor3
            obtain ⟨us, hu4, hk4⟩ := HC4.out.kds
            have HU4 := Lib.hid hu4
            have HK4 := Lib.hid hk4
            clear hu4 hk4)
         | (at_builtin; refine gapp _ cas_under cas_info rfl (by decide) (by decide) rfl (.tmp 161) (.tmp 164) rfl rfl (HU4.out.alloc _) rfl (rw_one _ _ (by simp) 26 (.slice A4 n4 c4)) (fun u h => by simp at h; rw [h]; rfl) (by omega) ?_; intro B5 e5 w4 h5 hg4 hor4
            have HC5 := Lib.hid (HC4.out.on ((Below.refl _ _).alloc (Nat.le_refl _) (.cells #[.slice A4 n4 c4] 26)))
            have P4 := Lib.hid (HC5.out.blk.grown hg4 (fun e => by have := (HU4.out.lt _ e.symm).1; omega))
            have O3s : Blk (w3.setCell ⟨w.heap.size + 1, 3, none⟩ (.slice A5 (n + 1) c5)) w2.heap.size 51 #[.slice A4 n4 c4, .int .i64 (z.a : Nat), .int .i64 (z.e : Nat)] := ⟨(Below.heap_setCell _ _ _ _ (by simp; omega)).trans O3.out.out⟩
            have O4 := Lib.hid ((O3s.alloc (.cells #[.slice A4 n4 c4] 26)).grown hg4 (fun e => by have := HBO.out _ e.symm; omega))
            clear O3s
            have p4 := P4.out.c
            have q4 := P4.out.f
            have o4 := O4.out.c
            have HG4 := Lib.hid hg4
            have HR4 := Lib.hid hor4
            have H5 := Lib.hid h5
            clear hg4 hor4 h5)
         | (go_at_call 53; (with_reducible refine (RU.out _).mono ?_); rintro e w5 ⟨rfl, rfl⟩)
         | (go_at_call 51; (with_reducible refine (RV.out _).mono ?_); rintro e w5 ⟨rfl, rfl⟩))
        go_roundw
        case rel =>
         have R3 := ((HB2.out.alloc (.cells #[.slice A4 n4 c4, .int .i64 (z.a : Nat), .int .i64 (z.e : Nat)] 51)).alloc (.cells #[.string (s.extract I L)] 9)).grown HG3.out (fun e => by have := (HC2.out.wds.lt _ e.symm).1; omega)
         have R3s : Blk (w3.setCell ⟨w.heap.size + 1, 3, none⟩ (.slice A5 (n + 1) c5)) w.heap.size 51 #[.slice none 0 0, .int .i64 0, .int .i64 0] := ⟨(Below.heap_setCell _ _ _ _ (by simp)).trans R3.out⟩
         have R4 := (R3s.alloc (.cells #[.slice A4 n4 c4] 26)).grown HG4.out (fun e => by have := (HU4.out.lt _ e.symm).1; omega)
         have b3 : Below w.heap.size w w3 := ((Z2.out.alloc (by omega) (.cells #[.slice A4 n4 c4, .int .i64 (z.a : Nat), .int .i64 (z.e : Nat)] 51)).alloc (by first | omega | (simp; done) | (simp; omega)) (.cells #[.string (s.extract I L)] 9)).trans ((ow_below HC3.out.wds HG3.out).mono (by omega))
         have b4 : Below w.heap.size w w4 := ((b3.setCell (p := ⟨w.heap.size + 1, 3, none⟩) (by simp) (.slice A5 (n + 1) c5)).alloc (by first | omega | (simp; done) | (simp; omega)) (.cells #[.slice A4 n4 c4] 26)).trans ((ow_below (HU4.out.alloc _) HG4.out).mono (by omega))
         have hv := HC1.out.kid HM4.out (((Below.refl _ _).alloc (Nat.le_refl _) (.cells #[.slice A4 n4 c4, .int .i64 (z.a : Nat), .int .i64 (z.e : Nat)] 51)).alloc (by first | omega | (simp; done) | (simp; omega)) (.cells #[.string (s.extract I L)] 9)) HG3.out HR3.out (u := .slice A5 (n + 1) c5) ((Below.refl _ _).alloc (by first | omega | (simp; done) | (simp; omega)) (.cells #[.slice A4 n4 c4] 26))
         have hc := HC5.out.case_ (HK4.out.move (fun _ _ h => h) (keeps_below ((Below.refl _ _).alloc (Nat.le_refl _) (.cells #[.slice A4 n4 c4] 26)))) HG4.out HR4.out H5.out rfl hv
         exact ⟨I', _, n + 1, c5, m + 1, e5, g, A5, B5, ws ++ [D.sub l I L], ks ++ [z.l], gs, rfl, rfl, ⟨rfl⟩, by omega, by omega, ⟨by omega, HP.out⟩, hc, ⟨(Below.heap_setCell _ _ _ _ (by simp)).trans R4.out⟩, b4.setCell (by simp) _⟩
        case measure => simp [intOf]; omega
       ·rw [if_pos h5] at hp1
        have HP := Kept.mk hp1
        obtain ⟨x, hx⟩ : ∃ x, D.atI l z.a = x := ⟨_, rfl⟩
        rw [hx] at RA3
        have i5 : (x != 125) = true := by rw [bne_iff_ne, <- hx]; exact fun h => h5 (D.atI_is h)
        clear hp hp1 h4 h5 hx CG
        go_wp2_with (go_at_call 28; (with_reducible refine (RA3.out _).mono ?_); rintro e w3 ⟨rfl, rfl⟩)
        exact bodyPost_ret (v := .agg #[.slice none 0 0, .int .i64 z.a, .int .i64 3]) (by simp [results, Tryz.results29, go_sem, c2, f2, hw2]) rfl (mt_err HP.out.symm (by (repeat (first | exact Z2.out | refine Below.setCell ?_ (by first | omega | (simp; done) | (simp; omega)) _ | refine Below.alloc ?_ (by first | omega | (simp; done) | (simp; omega)) _))))
      ·have hp1 := hp.out
       rw [if_pos h4] at hp1
       have HP := Kept.mk hp1
       have i4 : ((z.e : Int) != 0) = true := by simp; exact h4
       clear hp hp1 h4 CG
       go_wp2
       refine bodyPost_ret (v := .agg #[.slice A4 n4 c4, .int .i64 z.a, .int .i64 z.e]) (by simp [results, Tryz.results29, go_sem, c2, f2, hw2]) rfl ⟨by (repeat (first | exact Z2.out | refine Below.setCell ?_ (by first | omega | (simp; done) | (simp; omega)) _ | refine Below.alloc ?_ (by first | omega | (simp; done) | (simp; omega)) _)), A4, n4, c4, by rw [HP.out], ?_⟩
       rw [<- HP.out]
       have hw := HB1.out.lt
       exact Ms.up r (((((HM4.out.keep (keeps_setCell _ _ _ fun b hb => by simp; omega)).keep (keeps_setCell _ _ _ fun b hb => by simp; omega)).keep (keeps_setCell _ _ _ fun b hb => by simp; omega)).keep (keeps_below ((Below.refl _ _).alloc (Nat.le_refl _) _))).weaken fun b _ hb => by omega)
    ·rw [if_pos h3] at hp
     have HP := Kept.mk hp
     obtain ⟨x, hx⟩ : ∃ x, D.atI l L = x := ⟨_, rfl⟩
     have RA2 := Lib.hid (fun W => cA.out L W)
     rw [hx] at RA2
     have i3 : (x != 123) = true := by rw [bne_iff_ne, <- hx]; exact fun h => h3 (D.atI_is h)
     clear hp h3 hx hy
     go_wp2_with (first
      | (go_at_call 28; (with_reducible refine (RA2.out _).mono ?_); rintro e w2 ⟨rfl, rfl⟩)
      | (go_at_call 54; (with_reducible refine (CL.out _ hrw.out).mono ?_); rintro e w1 ⟨rfl, b1⟩; have B1 := HB.out.on b1; have c1 := B1.c; have f1 := B1.f; have Z1 := Lib.hid (HZ.out.trans (b1.mono HZ.out.size))))
     exact bodyPost_ret (v := .agg #[.slice none 0 0, .int .i64 L, .int .i64 3]) (by simp [results, Tryz.results29, go_sem, c1, f1]) rfl (mt_err HP.out.symm (by (repeat (first | exact Z1.out | refine Below.setCell ?_ (by first | omega | (simp; done) | (simp; omega)) _ | refine Below.alloc ?_ (by first | omega | (simp; done) | (simp; omega)) _))))
   ·rw [if_pos h2] at hp
    have HP := Kept.mk hp
    have i2 : ((y : Int) != 0) = true := by rw [bne_iff_ne]; omega
    clear hp h2 hy
    go_wp2_with (go_at_call 54; (with_reducible refine (CL.out _ hrw.out).mono ?_); rintro e w1 ⟨rfl, b1⟩; have B1 := HB.out.on b1; have c1 := B1.c; have f1 := B1.f; have Z1 := Lib.hid (HZ.out.trans (b1.mono HZ.out.size)))
    exact bodyPost_ret (v := .agg #[.slice none 0 0, .int .i64 I, .int .i64 y]) (by simp [results, Tryz.results29, go_sem, c1, f1]) rfl (mt_err HP.out.symm (by (repeat (first | exact Z1.out | refine Below.setCell ?_ (by first | omega | (simp; done) | (simp; omega)) _ | refine Below.alloc ?_ (by first | omega | (simp; done) | (simp; omega)) _))))
end
end Go.Proofs.YtgnjjlgmlokhmaaGreatDoor
namespace Go.Proofs.YtgnjjlgmlokhmaaGreatDoor
open Go.RowKit

theorem D.plc_eq {l : List Nat} {m : Bool -> Nat -> D.Ot} {deep w : Bool} {i K J Q : Nat} (hK : D.far D.wdB l i = K) (hJ : D.far (· == 32) l (K + 1) = J) (hQ : D.far D.wdB l J = Q) : D.plc l m deep w i =
  (if K = i then D.er_ i 3
  else if Nm.D.isB (D.sub l i K) = false then D.er_ i 15
  else if l[K]? = some 125 then (⟨[.mk 1 [] (D.sub l i K) [] []], K + 1, 0⟩ : D.Ot)
  else if l[K]? ≠ some 44 then D.er_ K 3
  else if Q = J then D.er_ J 3
  else if D.kndT (D.sub l J Q) = 0 then D.er_ J 16
  else if D.kndT (D.sub l J Q) = 2 then (if l[Q]? ≠ some 125 then D.er_ Q 3 else (⟨[.mk 2 [] (D.sub l i K) [] []], Q + 1, 0⟩ : D.Ot))
  else if deep then D.er_ J 19
  else if l[Q]? ≠ some 44 then D.er_ Q 3
  else D.cas l (D.kndT (D.sub l J Q)) (D.sub l i K) (m (w || D.kndT (D.sub l J Q) == 3)) (l.length + 1) (D.far (· == 32) l (Q + 1)) [] []) := by
 subst hK hJ hQ
 rfl
theorem knd_t {t : List Nat} : (D.kndT t = 2 -> t = D.numT) ∧ (D.kndT t = 3 -> t = D.pluT) ∧ (D.kndT t = 4 -> t = D.selT) := by
 unfold D.kndT
 by_cases h1 : t = D.numT
 ·rw [if_pos h1]; exact ⟨fun _ => h1, fun h => by omega, fun h => by omega⟩
 ·rw [if_neg h1]
  by_cases h2 : t = D.pluT
  ·rw [if_pos h2]; exact ⟨fun h => by omega, fun _ => h2, fun h => by omega⟩
  ·rw [if_neg h2]
   by_cases h3 : t = D.selT
   ·rw [if_pos h3]; exact ⟨fun h => by omega, fun h => by omega, fun _ => h3⟩
   ·rw [if_neg h3]; exact ⟨fun h => by omega, fun h => by omega, fun h => by omega⟩
theorem place_gen (s : ByteArray) (l : List Nat) (hl : D.ns s = l) (hs : s.size <= 60) (d r : Nat) (m : Bool -> Nat -> D.Ot) (dp : Bool) (hd : dp = true -> 3 <= d)
  (hm : dp = false -> d < 3 ∧ ∃ r', r = r' + 1 ∧ (∀ v q W, q <= s.size -> Calls Tryz.prog 13 #[.string s, .int .i64 q, .int .i64 ((d : Int) + 1), .bool v] W (Mt r' (m v q) W)) ∧ ∀ v q, q <= s.size -> (m v q).e = 0 -> q <= (m v q).a ∧ (m v q).a <= s.size)
  (i : Nat) (hi : i <= s.size) (v : Bool) (w : World) : Calls Tryz.prog 29 #[.string s, .int .i64 i, .int .i64 d, .bool v] w (Mt r (D.plc l m dp v i) w) := by
 obtain ⟨K, hK⟩ : ∃ K, D.far D.wdB l i = K := ⟨_, rfl⟩
 obtain ⟨J, hJ⟩ : ∃ J, D.far (· == 32) l (K + 1) = J := ⟨_, rfl⟩
 obtain ⟨Q, hQ⟩ : ∃ Q, D.far D.wdB l J = Q := ⟨_, rfl⟩
 obtain ⟨o, ho⟩ : ∃ o, D.plc l m dp v i = o := ⟨_, rfl⟩
 rw [ho]
 rw [D.plc_eq hK hJ hQ] at ho
 by_cases h1 : K = i
 ·rw [if_pos h1] at ho
  exact place_1 s l hl hs i d hi v r o w K hK h1 ho.symm
 rw [if_neg h1] at ho
 by_cases h2 : Nm.D.isB (D.sub l i K) = false
 ·rw [if_pos h2] at ho
  exact place_2 s l hl hs i d hi v r o w K hK h1 h2 ho.symm
 rw [if_neg h2] at ho
 have h2 : Nm.D.isB (D.sub l i K) = true := by simpa using h2
 by_cases h3 : l[K]? = some 125
 ·rw [if_pos h3] at ho
  exact place_3 s l hl hs i d hi v r o w K hK h1 h2 h3 ho.symm
 rw [if_neg h3] at ho
 by_cases h4 : l[K]? ≠ some 44
 ·rw [if_pos h4] at ho
  exact place_4 s l hl hs i d hi v r o w K hK h1 h2 h3 h4 ho.symm
 rw [if_neg h4] at ho
 have h4 : l[K]? = some 44 := by simpa using h4
 by_cases h5 : Q = J
 ·rw [if_pos h5] at ho
  exact place_5 s l hl hs i d hi v r o w K hK h1 h2 h4 J Q hJ hQ h5 ho.symm
 rw [if_neg h5] at ho
 obtain ⟨t2, t3, t4⟩ := knd_t (t := D.sub l J Q)
 rcases D.knd_cases (D.sub l J Q) with h6 | h6 | h6 | h6
 ·rw [if_pos h6] at ho
  exact place_6 s l hl hs i d hi v r o w K hK h1 h2 h4 J Q hJ hQ h5 h6 ho.symm
 ·rw [h6, if_neg (by omega), if_pos rfl] at ho
  by_cases h7 : l[Q]? = some 125
  ·rw [if_neg (by simp [h7])] at ho
   exact place_8 s l hl hs i d hi v r o w K hK h1 h2 h4 J Q hJ hQ h5 (t2 h6) h7 ho.symm
  ·rw [if_pos h7] at ho
   exact place_7 s l hl hs i d hi v r o w K hK h1 h2 h4 J Q hJ hQ h5 (t2 h6) h7 ho.symm
 ·rw [h6, if_neg (by omega), if_neg (by omega)] at ho
  cases dp with
  | true =>
   rw [if_pos rfl] at ho
   exact place_9_3 s l hl hs i d hi v r o w K hK h1 h2 h4 J Q hJ hQ h5 (t3 h6) (hd rfl) ho.symm
  | false =>
   rw [if_neg (by simp)] at ho
   obtain ⟨hd3, r', rfl, hm1, hm2⟩ := hm rfl
   by_cases h8 : l[Q]? = some 44
   ·rw [if_neg (by simp [h8]), show (v || (3 : Nat) == 3) = true by simp] at ho
    exact place_c3 s l hl hs i d hi v r' o w K hK h1 h2 h4 J Q hJ hQ h5 (t3 h6) hd3 h8 (m true) (fun q W hq => hm1 true q W hq) (fun q hq => hm2 true q hq) ho
   ·rw [if_pos h8] at ho
    exact place_10_3 s l hl hs i d hi v (r' + 1) o w K hK h1 h2 h4 J Q hJ hQ h5 (t3 h6) hd3 h8 ho.symm
 ·rw [h6, if_neg (by omega), if_neg (by omega)] at ho
  cases dp with
  | true =>
   rw [if_pos rfl] at ho
   exact place_9_4 s l hl hs i d hi v r o w K hK h1 h2 h4 J Q hJ hQ h5 (t4 h6) (hd rfl) ho.symm
  | false =>
   rw [if_neg (by simp)] at ho
   obtain ⟨hd3, r', rfl, hm1, hm2⟩ := hm rfl
   by_cases h8 : l[Q]? = some 44
   ·rw [if_neg (by simp [h8]), show (v || (4 : Nat) == 3) = v by simp] at ho
    exact place_c4 s l hl hs i d hi v r' o w K hK h1 h2 h4 J Q hJ hQ h5 (t4 h6) hd3 h8 (m v) (fun q W hq => hm1 v q W hq) (fun q hq => hm2 v q hq) ho
   ·rw [if_pos h8] at ho
    exact place_10_4 s l hl hs i d hi v (r' + 1) o w K hK h1 h2 h4 J Q hJ hQ h5 (t4 h6) hd3 h8 ho.symm
theorem msg_any (s : ByteArray) (hs : s.size <= 60) : ∀ (r d : Nat), d + r = 3 -> ∀ (v : Bool) (i : Nat) (w : World), i <= s.size ->
  Calls Tryz.prog 13 #[.string s, .int .i64 i, .int .i64 d, .bool v] w (Mt r (D.msg (D.ns s) r v i) w)
 | 0, d, hd, v, i, w, hi => by
  have hlen := D.ns_len s
  rw [D.msg, show (D.ns s).length + 1 = s.size + 1 by rw [hlen]]
  refine message_any s 0 d v _ w hs (fun q W hq => place_gen s _ rfl hs d 0 _ true (fun _ => by omega) (fun h => by cases h) q hq v W) (fun q hq he => ?_) i hi
  obtain ⟨x, e1, _, _, e4, e5⟩ := D.plc_good (l := D.ns s) (m := fun _ i => D.er_ i 19) (deep := true) (w := v) (P := fun _ _ => False) (fun h => by cases h) q (by rw [hlen]; exact hq) he
  exact ⟨x, e1, e4, by rw [<- hlen]; exact e5⟩
 | r + 1, d, hd, v, i, w, hi => by
  have hlen := D.ns_len s
  rw [D.msg, show (D.ns s).length + 1 = s.size + 1 by rw [hlen]]
  refine message_any s (r + 1) d v _ w hs (fun q W hq => place_gen s _ rfl hs d (r + 1) _ false (fun h => by cases h) (fun _ => ⟨by omega, r, rfl, fun v' q' W' hq' => msg_any s hs r (d + 1) (by omega) v' q' W' hq', fun v' q' hq' he => ?_⟩) q hq v W) (fun q hq he => ?_) i hi
  ·obtain ⟨_, e1, e2⟩ := D.msg_good (D.ns s) r v' q' (by rw [hlen]; exact hq') he
   exact ⟨e1, by rw [<- hlen]; exact e2⟩
  ·obtain ⟨x, e1, _, _, e4, e5⟩ := D.plc_good (l := D.ns s) (m := D.msg (D.ns s) r) (deep := false) (w := v) (P := D.Rt r) (fun _ v' i' hi' => D.msg_good (D.ns s) r v' i' hi') q (by rw [hlen]; exact hq) he
   exact ⟨x, e1, e4, by rw [<- hlen]; exact e5⟩
end Go.Proofs.YtgnjjlgmlokhmaaGreatDoor
namespace Go.Proofs.YtgnjjlgmlokhmaaGreatDoor
open Go.RowKit
attribute [local go_sem ↓] Go.wp_at_zero Go.wp_at_succ

theorem bel_dn_ {B : Nat} {w w' : World} (h : Below B w w') (n : Nat) : Below B w (w'.drewN n) := h.trans ⟨rfl, rfl, rfl, Nat.le_refl _, fun _ _ => rfl⟩
def Mtp (o : D.Ot) (w : World) (x : Ending) (w' : World) : Prop :=
 Below w.heap.size w w' ∧ ∃ (A : Option Addr) (n c : Nat), x = .returned (.tuple #[.slice A n c, .int .i64 (o.a : Nat), .int .i64 (o.e : Nat)]) ∧ Ms (fun b => w.heap.size <= b) w' 3 (.slice A n c) o.l
theorem Ms.nil_ (F : Nat -> Prop) (w : World) (r : Nat) (A : Option Addr) (c : Nat) : Ms F w r (.slice A 0 c) [] := (Ms_eq F w r _ _).2 ⟨A, 0, c, [], rfl, Nat.zero_le _, RF.nil _ _ _ _, rfl, fun i x a b h => by simp at h⟩
set_option maxHeartbeats 4000000 in
theorem refparse_any (s : ByteArray) (w : World) (hm : s.size <= 1000) : Calls Tryz.prog 5 #[.string s] w (Mtp (D.rdM (D.ns s)) w) := by
 have hlen := D.ns_len s
 by_cases hs : s.size <= 60
 ·have cM : Hid (Calls Tryz.prog 13 #[.string s, .int .i64 0, .int .i64 0, .bool false] w (Mt 3 (D.msg (D.ns s) 3 false 0) w)) := Lib.hid (msg_any s hs 3 0 rfl false 0 w (Nat.zero_le _))
  have hI : ¬ (60 : Int) < s.size := by omega
  have hI' : (s.size : Int) <= 60 := by omega
  obtain ⟨O, hO⟩ : ∃ O, D.rdM (D.ns s) = O := ⟨_, rfl⟩
  rw [hO]
  unfold D.rdM at hO
  rw [if_neg (by omega)] at hO
  dsimp only at hO
  rw [hlen] at hO
  obtain ⟨o, ho⟩ : ∃ o, D.msg (D.ns s) 3 false 0 = o := ⟨_, rfl⟩
  rw [ho] at cM hO
  clear ho hlen
  by_cases he : o.e = 0
  ·have iE : ((o.e : Int) == 0) = true := by simp; exact he
   have iE2 : ((o.e : Int) != 0) = false := by simp; exact he
   by_cases hlt : o.a < s.size
   ·have iL : (o.a : Int) < s.size := by omega
    rw [if_neg (by simpa using he), if_pos hlt] at hO
    have HO := Kept.mk hO
    clear hO he
    go_enter Tryz.func5, Tryz.ntmps5
    go_wp2_with (go_at_call 13; (with_reducible refine cM.out.mono ?_); rintro x w1 ⟨b1, A, n, c, rfl, m1⟩
                 have B1 := Lib.hid b1
                 clear b1 m1)
    go_quiet (fail)
    go_wp2_with fail
    refine bodyPost_ret (v := .tuple #[.slice none 0 0, .int .i64 (o.a : Nat), .int .i64 3]) (by simp [results, Tryz.results5, go_sem]) rfl ?_
    refine ⟨?_, none, 0, 0, by rw [<- HO.out]; rfl, by rw [<- HO.out]; exact Ms.nil_ _ _ _ _ _⟩
    have hz := B1.out.size
    exact bel_dn_ (B1.out.alloc hz _) _
   ·have iL : ¬ (o.a : Int) < s.size := by omega
    have iL' : (s.size : Int) <= o.a := by omega
    rw [if_neg (by simpa using he), if_neg hlt] at hO
    have HO := Kept.mk hO
    clear hO he
    go_enter Tryz.func5, Tryz.ntmps5
    go_wp2_with (go_at_call 13; (with_reducible refine cM.out.mono ?_); rintro x w1 ⟨b1, A, n, c, rfl, m1⟩
                 have B1 := Lib.hid b1
                 have M1 := Lib.hid m1
                 clear b1 m1)
    refine bodyPost_ret (v := .tuple #[.slice A n c, .int .i64 0, .int .i64 0]) (by simp [results, Tryz.results5, go_sem]) rfl ?_
    refine ⟨B1.out.alloc B1.out.size _, A, n, c, by rw [<- HO.out]; rfl, by rw [<- HO.out]; exact M1.out.keep (keeps_below (below_alloc_ _ _))⟩
  ·have iE : ((o.e : Int) == 0) = false := by simp; exact he
   have iE2 : ((o.e : Int) != 0) = true := by simp; exact he
   rw [if_pos he] at hO
   have HO := Kept.mk hO
   clear hO he
   go_enter Tryz.func5, Tryz.ntmps5
   go_wp2_with (go_at_call 13; (with_reducible refine cM.out.mono ?_); rintro x w1 ⟨b1, A, n, c, rfl, m1⟩
                have B1 := Lib.hid b1
                clear b1 m1)
   go_quiet (fail)
   go_wp2_with fail
   refine bodyPost_ret (v := .tuple #[.slice none 0 0, .int .i64 (o.a : Nat), .int .i64 (o.e : Nat)]) (by simp [results, Tryz.results5, go_sem]) rfl ?_
   refine ⟨?_, none, 0, 0, by rw [<- HO.out]; rfl, by rw [<- HO.out]; exact Ms.nil_ _ _ _ _ _⟩
   exact bel_dn_ (B1.out.alloc B1.out.size _) _
 ·have hI : (60 : Int) < s.size := by omega
  have hO : D.rdM (D.ns s) = D.er_ 0 2 := by unfold D.rdM; rw [if_pos (by omega)]
  rw [hO]
  clear hO hlen
  go_enter Tryz.func5, Tryz.ntmps5
  go_wp2
  refine bodyPost_ret (v := .tuple #[.slice none 0 0, .int .i64 0, .int .i64 2]) (by simp [results, Tryz.results5, go_sem]) rfl ?_
  exact ⟨Below.refl _ _, none, 0, 0, rfl, Ms.nil_ _ _ _ _ _⟩
end Go.Proofs.YtgnjjlgmlokhmaaGreatDoor
namespace Go.Proofs.YtgnjjlgmlokhmaaGreatDoor
open Go.Shelf
def sortU_ren : Go.Shelf.Ren := ⟨fun | 6 => 37 | 15 => 65 | 14 => 64 | 28 => 98 | 29 => 99 | 20 => 90 | 21 => 91 | 22 => 92 | 23 => 93 | 24 => 94 | 25 => 95 | 26 => 96 | 27 => 97 | 46 => 113 | 47 => 114 | 48 => 115 | 49 => 116 | 50 => 117 | 57 => 125 | n => n, fun | 22 => 31 | 24 => 41 | 25 => 73 | 3 => 3 | 39 => 133 | 0 => 0 | 53 => 158 | 55 => 62 | 4 => 4 | 46 => 151 | 45 => 150 | 50 => 155 | 5 => 5 | 9 => 9 | 66 => 172 | 70 => 176 | 76 => 188 | 77 => 189 | n => n, fun | n => n⟩
theorem sortU : Go.Proofs.SlLaysF0.n6 Tryz.prog sortU_ren := {
 mixed := by kernel_rfl
 f6 := ⟨Tryz.f37.name, by decide, Tryz.func37.trans (congrArg some (by kernel_rfl))⟩
 f14 := ⟨Tryz.f64.name, by decide, Tryz.func64.trans (congrArg some (by kernel_rfl))⟩
 f15 := Tryz.func65.trans (congrArg some (by kernel_rfl))
 f20 := ⟨Tryz.f90.name, by decide, Tryz.func90.trans (congrArg some (by kernel_rfl))⟩
 f21 := ⟨Tryz.f91.name, by decide, Tryz.func91.trans (congrArg some (by kernel_rfl))⟩
 f22 := ⟨Tryz.f92.name, by decide, Tryz.func92.trans (congrArg some (by kernel_rfl))⟩
 f23 := ⟨Tryz.f93.name, by decide, Tryz.func93.trans (congrArg some (by kernel_rfl))⟩
 f24 := ⟨Tryz.f94.name, by decide, Tryz.func94.trans (congrArg some (by kernel_rfl))⟩
 f25 := ⟨Tryz.f95.name, by decide, Tryz.func95.trans (congrArg some (by kernel_rfl))⟩
 f26 := ⟨Tryz.f96.name, by decide, Tryz.func96.trans (congrArg some (by kernel_rfl))⟩
 f27 := ⟨Tryz.f97.name, by decide, Tryz.func97.trans (congrArg some (by kernel_rfl))⟩
 f28 := Tryz.func98.trans (congrArg some (by kernel_rfl))
 f29 := Tryz.func99.trans (congrArg some (by kernel_rfl))
 f46 := ⟨Tryz.f113.name, by decide, Tryz.func113.trans (congrArg some (by kernel_rfl))⟩
 f47 := Tryz.func114.trans (congrArg some (by kernel_rfl))
 f48 := Tryz.func115.trans (congrArg some (by kernel_rfl))
 f49 := ⟨Tryz.f116.name, by decide, Tryz.func116.trans (congrArg some (by kernel_rfl))⟩
 f50 := ⟨Tryz.f117.name, by decide, Tryz.func117.trans (congrArg some (by kernel_rfl))⟩
 f57 := ⟨Tryz.f125.name, by decide, Tryz.func125.trans (congrArg some (by kernel_rfl))⟩
 t0 := Tryz.underlying0
 a0 := Tryz.isAgg0
 z0 := Tryz.sizeOf0
 v0 := Tryz.zeroValue0
 t3 := Tryz.underlying3
 a3 := Tryz.isAgg3
 z3 := Tryz.sizeOf3
 v3 := Tryz.zeroValue3
 t4 := Tryz.underlying4
 a4 := Tryz.isAgg4
 z4 := Tryz.sizeOf4
 v4 := Tryz.zeroValue4
 t5 := Tryz.underlying5
 a5 := Tryz.isAgg5
 z5 := Tryz.sizeOf5
 v5 := Tryz.zeroValue5
 t9 := Tryz.underlying9
 a9 := Tryz.isAgg9
 z9 := Tryz.sizeOf9
 v9 := Tryz.zeroValue9
 t22 := Tryz.underlying31
 a22 := Tryz.isAgg31
 z22 := Tryz.sizeOf31
 v22 := Tryz.zeroValue31
 t25 := Tryz.underlying73
 a25 := Tryz.isAgg73
 z25 := Tryz.sizeOf73
 v25 := Tryz.zeroValue73
 t39 := Tryz.underlying133
 a39 := Tryz.isAgg133
 z39 := Tryz.sizeOf133
 v39 := Tryz.zeroValue133
 t45 := Tryz.underlying150
 a45 := Tryz.isAgg150
 z45 := Tryz.sizeOf150
 v45 := Tryz.zeroValue150
 t46 := Tryz.underlying151
 a46 := Tryz.isAgg151
 z46 := Tryz.sizeOf151
 v46 := Tryz.zeroValue151
 t50 := Tryz.underlying155
 a50 := Tryz.isAgg155
 z50 := Tryz.sizeOf155
 v50 := Tryz.zeroValue155
 t53 := Tryz.underlying158
 a53 := Tryz.isAgg158
 z53 := Tryz.sizeOf158
 v53 := Tryz.zeroValue158
 t55 := Tryz.underlying62
 a55 := Tryz.isAgg62
 z55 := Tryz.sizeOf62
 v55 := Tryz.zeroValue62
 t66 := Tryz.underlying172
 a66 := Tryz.isAgg172
 z66 := Tryz.sizeOf172
 v66 := Tryz.zeroValue172
 t70 := Tryz.underlying176
 a70 := Tryz.isAgg176
 z70 := Tryz.sizeOf176
 v70 := Tryz.zeroValue176
 t76 := Tryz.underlying188
 a76 := Tryz.isAgg188
 z76 := Tryz.sizeOf188
 v76 := Tryz.zeroValue188
 t77 := Tryz.underlying189
 a77 := Tryz.isAgg189
 z77 := Tryz.sizeOf189
 v77 := Tryz.zeroValue189 }
end Go.Proofs.YtgnjjlgmlokhmaaGreatDoor
