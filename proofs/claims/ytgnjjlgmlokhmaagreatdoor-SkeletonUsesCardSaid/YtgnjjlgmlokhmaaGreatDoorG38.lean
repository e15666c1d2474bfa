/-
  
-/
import Derived.Test.YtgnjjlgmlokhmaaGreatDoorG37
import Derived.Test.YtgnjjlgmlokhmaaGreatDoorG35
import Derived.Test.YtgnjjlgmlokhmaaGreatDoorG27
import Derived.Test.YtgnjjlgmlokhmaaGreatDoorG36
import Derived.OpenShut
import Derived.ChangeArms
import Derived.Handed
import Derived.HandedShaped
import Derived.ProofKit
import Derived.LaidMore
import Derived.Lib.LaidTab
set_option linter.unusedVariables false
set_option linter.unusedSimpArgs false
set_option maxRecDepth 100000
namespace Go.Proofs.YtgnjjlgmlokhmaaGreatDoor
open Go.RowKit

theorem dpp_of {F : Nat -> Prop} {r : Nat} {w : World} {v ch : Bool} {x : D.Nd} {a b : Value} {kids : Bool -> List D.Nd -> Prop} (ho : D.okNd ch kids v x) (h : Bel (Kd F w r) F w x a b) (hwn : x.ws.length <= 1000) (hz : (D.prN x).length <= 1000)
  (hK : ∀ u q, q ∈ x.ks -> Kd F w r u q -> DpC (D.prL q) u w) : Dpp w x a b := by
 obtain ⟨hBt, ⟨A1, n1, c1, rfl, hc1, r1⟩, B1, m1, e1, k1, rfl, _, r3, l1, _, g1⟩ := h
 have y1 := r1.row.len
 have y3 := r3.row.len
 rw [strs_len] at y1
 obtain rfl : n1 = x.ws.length := by omega
 obtain rfl : m1 = x.ks.length := by omega
 refine ⟨?_, hwn, hz, fun hk => ?_, A1, c1, B1, e1, k1, rfl, r1.row, rfl, r3.row, fun q u k hu hq => hK u k (List.mem_of_getElem? hq) (g1 q u k hu hq)⟩
 ·rcases ho with ⟨e, _⟩ | ⟨e, _⟩ | ⟨e, _⟩ | ⟨e, _⟩
  ·omega
  ·rw [e]; simp [D.Nd.k]
  ·omega
  ·omega
 ·rcases ho with ⟨e, _⟩ | ⟨e, _⟩ | ⟨e, _⟩ | ⟨_, _, _, _, e, _⟩
  ·omega
  ·rw [e] at hk; simp [D.Nd.k] at hk
  ·omega
  ·exact e
theorem dprint_any {F : Nat -> Prop} {w : World} : ∀ (r : Nat) {v : Bool} {a : Value} {l : List D.Nd}, Ms F w r a l -> D.Rt r v l -> (D.prL l).length <= 1000 -> DpC (D.prL l) a w
 | 0, v, a, l, ha, hR, hz => by
  obtain ⟨A, n, c, vs, rfl, _, hr, hl, hx⟩ := (Ms_eq _ w 0 _ _).1 ha
  have h1 := hr.row.len
  rw [cls_len] at h1
  have h4 := D.len_le hR
  have h5 : l.length = vs.length := by rw [<- hl]; simp
  have := dprint_row A n c vs w hr.row (by omega) (fun j x p q h => ?_) (by rw [hl]; exact hz)
  ·rw [hl] at this
   exact this
  ·have hxl : l[j]? = some x := by rw [<- hl]; simp [h]
   have ho : D.okNd false (fun _ _ => False) v x := (D.okLs_at (N := D.okNd false (fun _ _ => False) v) hR hxl).1
   have hz1 := D.prL_mem (List.mem_of_getElem? hxl)
   obtain ⟨k1, k2⟩ := D.kids_le_ ho (by omega)
   exact dpp_of ho (hx j x p q h).2.2 k1 (by omega) (fun u q _ h => h.elim)
 | r + 1, v, a, l, ha, hR, hz => by
  obtain ⟨A, n, c, vs, rfl, _, hr, hl, hx⟩ := (Ms_eq _ w (r + 1) _ _).1 ha
  have h1 := hr.row.len
  rw [cls_len] at h1
  have h4 := D.len_le hR
  have h5 : l.length = vs.length := by rw [<- hl]; simp
  have := dprint_row A n c vs w hr.row (by omega) (fun j x p q h => ?_) (by rw [hl]; exact hz)
  ·rw [hl] at this
   exact this
  ·have hxl : l[j]? = some x := by rw [<- hl]; simp [h]
   have ho : D.okNd true (D.Rt r) v x := (D.okLs_at (N := D.okNd true (D.Rt r) v) hR hxl).1
   have hz1 := D.prL_mem (List.mem_of_getElem? hxl)
   obtain ⟨k1, k2⟩ := D.kids_le_ ho (by omega)
   refine dpp_of ho (hx j x p q h).2.2 k1 (by omega) (fun u q hq hu => ?_)
   have hzq := D.kid_len (r := 0) ho hq
   rcases ho with ⟨_, _, _, e, _⟩ | ⟨e, _⟩ | ⟨_, _, _, e, _⟩ | ⟨_, _, _, _, _, _, _, e⟩
   ·rw [e] at hq; cases hq
   ·rw [e] at hq; cases hq
   ·rw [e] at hq; cases hq
   ·exact dprint_any r hu (e q hq) (by omega)
end Go.Proofs.YtgnjjlgmlokhmaaGreatDoor
namespace Go.Proofs.YtgnjjlgmlokhmaaGreatDoor
open Go.RowKit
attribute [local go_sem ↓] Go.wp_at_zero Go.wp_at_succ Nm.ld_a Nm.ld_n Nm.st_a Nm.st_n Nm.lv_a Nm.lv_n Nm.eq_a Nm.eq_n Nm.ne_a Nm.ne_n ld_uv lv_uv st_uv bd_uv bs_uv
attribute [local go_sem] Nm.run_ld_a Nm.run_ld_n Nm.run_lv_a Nm.run_lv_n Nm.run_eq_a Nm.run_eq_n Nm.run_ne_a Nm.run_ne_n Nm.rd_new Nm.rd_old Nm.rd_drew Nm.rd_drewN Nm.st_z run_lvuv run_lduv run_stuv_new run_bsuv Shp.rd_new Shp.rd_old Shp.rd_drew Shp.rd_drewN

theorem D.rdM_none_ {l : List Nat} (h : (D.rdM l).e ≠ 0) : (D.rdM l).l = [] := by
 revert h
 unfold D.rdM
 split
 ·intro _; rfl
 ·dsimp only
  split
  ·intro _; rfl
  ·split
   ·intro _; rfl
   ·intro h; exact absurd rfl h
theorem prog_us (F : Nat -> Prop) (w : World) (u : Value) (l : List D.Nd) (hP : Pm F w 3 u l) (hR : D.Rt 3 false l) (hsz : (D.prL l).length <= 60) (hG : Gv w) :
  Calls Tryz.prog 8 #[u] w fun e w' => ∃ (A : Option Addr) (c : Nat), e = .returned (.slice A (D.us 3 l []).length c) ∧ Rw 14 w' A (D.us 3 l []).length (uS.rcs ((D.us 3 l []).map D.pj)) ∧ Below w.heap.size w w' := by
 refine (prog_uses F w u l hP hR hsz hG).mono ?_
 rintro e w' ⟨A, c, S, hs, hp, h1, h2, h3⟩
 have hq := D.uses_eq hR hs hp
 rw [hq] at h1 h2
 rw [List.length_map] at h1 h2
 exact ⟨A, c, h1, h2, h3⟩
theorem doc_us {F : Nat -> Prop} {w0 W : World} {a : Value} {l : List D.Nd} (ha : Ms F w0 3 a l) (hR : D.Rt 3 false l) (hz : (D.prL l).length <= 700) (hb : Below w0.heap.size w0 W) :
  Calls Tryz.prog 9 #[a, .slice none 0 0] W fun e w' => ∃ (A : Option Addr) (c : Nat), e = .returned (.slice A (D.us 3 l []).length c) ∧ Dus Tr w' A (D.us 3 l []).length c (D.us 3 l []) ∧ Below W.heap.size W w' := by
 refine (uses_doc 3 ha hR hz W none 0 0 [] 0 hb (Dus.nil _ _ _ _) (D.Bd.nil 0) (by omega)).mono ?_
 rintro e w' ⟨A, n, c, h1, h2, h3⟩
 have hn := h2.len
 subst hn
 exact ⟨A, c, h1, h2, h3⟩
theorem uses_nil (F : Nat -> Prop) (w : World) (u : Value) (hP : Pm F w 3 u []) (hG : Gv w) :
  Calls Tryz.prog 8 #[u] w fun e w' => ∃ (A : Option Addr) (c : Nat), e = .returned (.slice A 0 c) ∧ Below w.heap.size w w' := by
 have hR : D.Rt 3 false [] := by simp [D.Rt, D.okLs]
 refine (prog_us F w u [] hP hR (by simp [D.prL]) hG).mono ?_
 rintro e w' ⟨A, c, h1, h2, h3⟩
 exact ⟨A, c, h1, h3⟩
structure Lu (w : World) (A4 : Option Addr) (N : Nat) (A5 : Option Addr) (c5 : Nat) (DU : List D.Du) (W : World) : Prop where
 b : Below w.heap.size w W
 r : Rw 14 W A4 N (uS.rcs (DU.map D.pj))
 d : Dus Tr W A5 N c5 DU
theorem Lu.on {w : World} {A4 : Option Addr} {N : Nat} {A5 : Option Addr} {c5 : Nat} {DU : List D.Du} {W W' : World} (h : Lu w A4 N A5 c5 DU W) (k : Below W.heap.size W W') : Lu w A4 N A5 c5 DU W' := ⟨h.b.trans (k.mono h.b.size), h.r.on k, h.d.keep (keeps_below k)⟩
structure L1 (W : World) (a4 a5 : Addr) (i : Nat) (x : D.Du) (aw : Option Addr) (nw cw : Nat) : Prop where
 n : Nm.rd W (a4.add (i * 14)) = some x.n
 h : W.cell? ⟨(a4.add (i * 14)).block, (a4.add (i * 14)).off + 12, none⟩ = some (.int .u8 (x.h : Nat))
 t : W.cell? ⟨(a4.add (i * 14)).block, (a4.add (i * 14)).off + 13, none⟩ = some (.string (D.jn x.ws))
 d : DC W a5 i x (.slice aw nw cw)
 l : a4.block < W.heap.size
theorem Lu.one {w : World} {A4 : Option Addr} {N : Nat} {A5 : Option Addr} {c5 : Nat} {DU : List D.Du} {W : World} (h : Lu w A4 N A5 c5 DU W) {i : Nat} {x : D.Du} (hx : DU[i]? = some x) : ∃ (a4 a5 : Addr) (aw : Option Addr) (nw cw : Nat), A4 = some a4 ∧ A5 = some a5 ∧ nw = x.ws.length ∧ nw <= cw ∧ Rw 1 W aw nw (strs x.ws) ∧ D.RnN x.n ∧ x.h < 8 ∧ L1 W a4 a5 i x aw nw cw := by
 obtain ⟨vs, hr, hl, hb⟩ := h.d.out
 obtain ⟨a, ha⟩ : ∃ a, vs[i]? = some (x, a) := by
  rw [<- hl, List.getElem?_map] at hx
  cases hv : vs[i]? with
  | none => rw [hv] at hx; cases hx
  | some p =>
   rw [hv] at hx
   obtain ⟨y, a⟩ := p
   have : y = x := by simpa using hx
   subst this
   exact ⟨a, rfl⟩
 obtain ⟨aw, nw, cw, rfl, hc, hrw, _, hrn, h8⟩ := hb i x a ha
 obtain ⟨a5, rfl, hdc⟩ := dc_at hr.row ha
 have hx' : (DU.map D.pj)[i]? = some (D.pj x) := by rw [List.getElem?_map, hx]; rfl
 obtain ⟨a4, rfl, hlt, hrd, hnm⟩ := use_at h.r hx'
 have hcell : ∀ j u, (ucells (D.pj x))[j]? = some u -> W.cell? ((a4.add (i * 14)).add j) = some u := Shp.at_of hrd
 have hlen : (bys x.n.l).length = 12 := by rw [bys_len, x.n.len]
 have c12 := hcell 12 (.int .u8 (x.h : Nat)) (by
  show (bys x.n.l ++ [_, _])[12]? = _
  rw [List.getElem?_append_right (by omega), hlen]; rfl)
 have c13 := hcell 13 (.string (D.jn x.ws)) (by
  show (bys x.n.l ++ [_, _])[13]? = _
  rw [List.getElem?_append_right (by omega), hlen]; rfl)
 have hnw := hrw.row.len
 refine ⟨a4, a5, aw, nw, cw, rfl, rfl, by simpa [strs] using hnw.symm, hc, hrw.row, hrn, h8, ⟨hnm, ?_, ?_, hdc, hlt⟩⟩
 ·rw [<- add_succ (a4.add (i * 14)) 11] ; exact c12
 ·rw [<- add_succ (a4.add (i * 14)) 12] ; exact c13
theorem below_dr_ (w : World) : Below w.heap.size w w.drew := ⟨rfl, rfl, rfl, Nat.le_refl _, fun _ _ => rfl⟩
theorem ck_ {w w1 : World} {p : Addr} {v : Value} (hb : Below w.heap.size w w1) (hc : w.cell? p = some v) : w1.cell? p = some v := (hb.cell (World.block_lt_of_cell? w p hc)).trans hc
theorem L1.on {W W' : World} {a4 a5 : Addr} {i : Nat} {x : D.Du} {aw : Option Addr} {nw cw : Nat} (h : L1 W a4 a5 i x aw nw cw) (k : Below W.heap.size W W') : L1 W' a4 a5 i x aw nw cw := ⟨Nm.rd_on h.n k, ck_ k h.h, ck_ k h.t, ⟨Nat.lt_of_lt_of_le h.d.l k.size, ck_ k h.d.n, ck_ k h.d.h, ck_ k h.d.a⟩, Nat.lt_of_lt_of_le h.l k.size⟩
set_option maxHeartbeats 16000000 in
theorem law_uses (s : ByteArray) (w : World) (hG : Gw w) (hm : s.size <= 9223372036854775807) : Calls Tryz.prog 3 #[.string s] w fun e w' => e = .returned (.bool true) ∧ Below w.heap.size w w' := by
 obtain ⟨q, hq, hqm⟩ : ∃ q : Nat, q <= 60 ∧ q = min s.size 60 := ⟨_, Nat.min_le_right _ _, rfl⟩
 have hqs : q <= s.size := by omega
 have hmin : (min (s.size : Int) 60) = (q : Int) := by omega
 obtain ⟨t, ht⟩ : ∃ t, s.extract 0 q = t := ⟨_, rfl⟩
 have hts : t.size <= 1000 := by rw [<- ht]; have := cut_le s q hqs; omega
 obtain ⟨o, ho⟩ : ∃ o, D.rdM (D.ns t) = o := ⟨_, rfl⟩
 obtain ⟨hrt, hpz⟩ := D.rdM_rt (D.ns t)
 have hnone := D.rdM_none_ (l := D.ns t)
 have C1 := Lib.hid (fun W (h : Below w.heap.size w W) => parse_any t W (hG.on h).g hts)
 have C2 := Lib.hid (fun W => refparse_any t W hts)
 rw [ho] at C1 C2 hrt hpz hnone
 have HG := Lib.hid hG
 have HB0 := Lib.hid (Below.refl w.heap.size w)
 have C3 := Lib.hid (fun W (h : Below w.heap.size w W) => known_any W (hG.on h))
 have HRT := Lib.hid hrt
 have HPZ := Lib.hid hpz
 have i1 : ((q : Int)).toNat = q := by omega
 clear ho hG hqm
 obtain ⟨l, oa, oe⟩ := o
 simp only at hrt hpz hnone HRT HPZ
 by_cases he : oe = 0
 ·subst he
  by_cases h60 : 60 < (D.prL l).length
  ·have CP := Lib.hid (fun (F : Nat -> Prop) W u (h : Pm F W 3 u l) (hb : Below w.heap.size w W) => print_any F W u l h hrt hpz (HG.out.on hb).g)
   unfold D.prT at CP
   rw [if_pos h60] at CP
   have CU := Lib.hid (fun (F : Nat -> Prop) W u (h : Pm F W 3 u l) (hb : Below w.heap.size w W) => uses_none u W 2 (by decide) (CP.out F W u h hb))
   have CD := Lib.hid (fun (F : Nat -> Prop) w0 W a (h : Ms F w0 3 a l) (hb : Below w0.heap.size w0 W) => dprint_any 3 h hrt hpz W hb)
   obtain ⟨X, hX⟩ : ∃ X, D.sb (D.prL l) = X := ⟨_, rfl⟩
   have hXs : X.size = (D.prL l).length := by rw [<- hX, D.sb_len]
   rw [hX] at CD
   have x60 : (60 : Int) < (X.size : Int) := by omega
   clear CP h60 hrt hpz hnone hX hXs
   go_enter Tryz.func3, Tryz.ntmps3
   go_wp2_with (first
    | (go_at_call 4; (with_reducible refine (C1.out _ HB0.out).mono ?_); rintro e w1 ⟨b1, A1, n1, c1, rfl, p1⟩; have B1 := Lib.hid b1; have P1 := Lib.hid p1; clear b1 p1)
    | (go_at_call 5; (with_reducible refine (C2.out _).mono ?_); rintro e w2 ⟨b2, A2, n2, c2, rfl, m2⟩; have B2 := Lib.hid (B1.out.trans (b2.mono B1.out.size)); have P2 := Lib.hid (P1.out.keep (keeps_below b2)); have M2 := Lib.hid m2; clear b2 m2)
    | (go_at_call 6; (with_reducible refine (CD.out _ _ _ _ M2.out (Below.refl _ _)).mono ?_); rintro e w3 ⟨rfl, b3⟩; have B3 := Lib.hid (B2.out.trans (b3.mono B2.out.size)); have P3 := Lib.hid (P2.out.keep (keeps_below b3)); clear b3)
    | (go_at_call 7; (with_reducible refine (C3.out _ B3.out).mono ?_); rintro e w4 ⟨rfl, b4⟩; have B4 := Lib.hid (B3.out.trans (b4.mono B3.out.size)); have P4 := Lib.hid (P3.out.keep (keeps_below b4)); clear b4)
    | (go_at_call 8; (with_reducible refine (CU.out _ _ _ P4.out B4.out).mono ?_); rintro e w5 ⟨rfl, b5⟩; have B5 := Lib.hid (B4.out.trans (b5.mono B4.out.size)); clear b5))
   go_ret
   exact ⟨rfl, B5.out⟩
  ·have CU := Lib.hid (fun (F : Nat -> Prop) W u (h : Pm F W 3 u l) (hb : Below w.heap.size w W) => prog_us F W u l h hrt (by omega) (HG.out.on hb).g)
   have CV := Lib.hid (fun (F : Nat -> Prop) w0 W a (h : Ms F w0 3 a l) (hb : Below w0.heap.size w0 W) => doc_us (W := W) h hrt (by omega) hb)
   have CD := Lib.hid (fun (F : Nat -> Prop) w0 W a (h : Ms F w0 3 a l) (hb : Below w0.heap.size w0 W) => dprint_any 3 h hrt hpz W hb)
   have HNE := Lib.hid (D.us_ne hrt)
   have HBD := Lib.hid (D.us_sz hrt (by omega))
   have hN60 : (D.us 3 l []).length <= 60 := by have := (D.us_bd 3 hrt (D.Bd.nil 0)).len; omega
   obtain ⟨X, hX⟩ : ∃ X, D.sb (D.prL l) = X := ⟨_, rfl⟩
   have hXs : X.size = (D.prL l).length := by rw [<- hX, D.sb_len]
   rw [hX] at CD
   have x60 : (X.size : Int) <= 60 := by omega
   obtain ⟨DU, hDU⟩ : ∃ DU, D.us 3 l [] = DU := ⟨_, rfl⟩
   rw [hDU] at CU CV HNE HBD
   obtain ⟨N, hN⟩ : ∃ N, DU.length = N := ⟨_, rfl⟩
   rw [hDU, hN] at hN60
   rw [hN] at CU CV
   have HN := Lib.hid hN
   clear h60 hrt hpz hnone hX hXs hDU hN
   go_enter Tryz.func3, Tryz.ntmps3
   go_wp2_with (first
    | (go_at_call 4; (with_reducible refine (C1.out _ HB0.out).mono ?_); rintro e w1 ⟨b1, A1, n1, c1, rfl, p1⟩; have B1 := Lib.hid b1; have P1 := Lib.hid p1; clear b1 p1)
    | (go_at_call 5; (with_reducible refine (C2.out _).mono ?_); rintro e w2 ⟨b2, A2, n2, c2, rfl, m2⟩; have B2 := Lib.hid (B1.out.trans (b2.mono B1.out.size)); have P2 := Lib.hid (P1.out.keep (keeps_below b2)); have M2 := Lib.hid m2; clear b2 m2)
    | (go_at_call 6; (with_reducible refine (CD.out _ _ _ _ M2.out (Below.refl _ _)).mono ?_); rintro e w3 ⟨rfl, b3⟩; have S3 := Lib.hid b3; have B3 := Lib.hid (B2.out.trans (b3.mono B2.out.size)); have P3 := Lib.hid (P2.out.keep (keeps_below b3)); clear b3)
    | (go_at_call 8; (with_reducible refine (CU.out _ _ _ P3.out B3.out).mono ?_); rintro e w4 ⟨A4, c4, rfl, r4, b4⟩; have S4 := Lib.hid (S3.out.trans (b4.mono S3.out.size)); have B4 := Lib.hid (B3.out.trans (b4.mono B3.out.size)); have R4 := Lib.hid r4; clear b4 r4)
    | (go_at_call 9; (with_reducible refine (CV.out _ _ _ _ M2.out S4.out).mono ?_); rintro e w5 ⟨A5, c5, rfl, d5, b5⟩; have L5 : Hid (Lu w A4 N A5 c5 DU w5) := Lib.hid ⟨B4.out.trans (b5.mono B4.out.size), R4.out.on b5, d5⟩; clear b5 d5))
   go_loopw [11] (fun i wr => ∃ k : Nat, k <= N ∧ i = .int .i64 k ∧ Lu w A4 N A5 c5 DU wr) (fun i _ => N - (intOf i).toNat)
   case atStart => exact ⟨0, Nat.zero_le _, rfl, L5.out⟩
   case round =>
    obtain ⟨k, hk, rfl, l0⟩ := hrel
    have L0 := Lib.hid l0
    clear l0 L5
    by_cases hlt : k < N
    ·obtain ⟨x, hx⟩ : ∃ x, DU[k]? = some x := ⟨DU[k]'(by rw [HN.out]; exact hlt), List.getElem?_eq_getElem _⟩
     obtain ⟨a4, a5, aw, nw, cw, rfl, rfl, hnw, hncw, hrw, hrn, h8, l1⟩ := L0.out.one hx
     have hsz := HBD.out x (List.mem_of_getElem? hx)
     have hxN : nw <= 60 := by rw [hnw]; exact hsz.1
     have HSW := Lib.hid hsz.2
     have HWN := Lib.hid (HNE.out x (List.mem_of_getElem? hx))
     have HX := Lib.hid hx
     have HRW := Lib.hid hrw
     have L1' := Lib.hid l1
     have d0 := l1.d.n
     have d1 := l1.d.h
     have d2 := l1.d.a
     have k1 : (k : Int) < (N : Int) := by omega
     have k0 : (0 : Int) <= (k : Int) := by omega
     have HNW := Lib.hid hnw
     have HRN := Lib.hid hrn
     clear hx hrw l1 hnw hrn hsz
     go_wp2_with fail
     go_loopw [12, 13] (fun s j wq => ∃ p : Nat, p <= nw ∧ s = .string (D.jn (x.ws.take p)) ∧ j = .int .i64 p ∧ wr = wq) (fun _ j _ => nw - (intOf j).toNat)
     case atStart => exact ⟨0, Nat.zero_le _, rfl, rfl, rfl⟩
     case round =>
      obtain ⟨p, hp, rfl, rfl, rfl⟩ := hrel
      by_cases hpl : p < nw
      ·obtain ⟨y, hy⟩ : ∃ y, x.ws[p]? = some y := ⟨x.ws[p]'(by rw [<- HNW.out]; exact hpl), List.getElem?_eq_getElem _⟩
       have HJ := Lib.hid (D.jn_next HWN.out hy)
       obtain ⟨ag, rfl, hal, hcy⟩ := HRW.out.cell (k := p) (u := .string (D.sb y)) (by simp [strs, hy])
       obtain ⟨J, hJ⟩ : ∃ J, D.jn (x.ws.take p) = J := ⟨_, rfl⟩
       rw [hJ] at HJ
       rw [hJ]
       have hys : (D.sb y).size <= 60 := by rw [D.sb_len]; exact HSW.out y (List.mem_of_getElem? hy)
       have hJs : J.size <= 3660 := by
        rw [<- hJ]
        have h1 := D.jn_le (M := 60) (n := p) (ws := x.ws.take p) (by rw [List.length_take, <- HNW.out]; omega) (fun w hw => HSW.out w (List.mem_of_mem_take hw))
        have h2 : p * 61 <= 60 * 61 := Nat.mul_le_mul_right 61 (by omega)
        omega
       have jy : J.size + (D.sb y).size <= 9223372036854775807 := by omega
       have j1 : J.size + 1 <= 9223372036854775807 := by omega
       have j2 : J.size + 1 + (D.sb y).size <= 9223372036854775807 := by omega
       have q1 : (p : Int) < (nw : Int) := by omega
       have q0 : (0 : Int) <= (p : Int) := by omega
       by_cases hp0 : p = 0
       ·have hJ0 : J = ⟨#[]⟩ := by rw [<- hJ, hp0]; rfl
        rw [if_pos hp0, <- hJ0] at HJ
        have p0 : (p : Int) <= 0 := by omega
        clear hy hJ hJ0 hp0
        go_wp2_with fail
        go_roundw
        case rel => exact ⟨p + 1, by omega, by rw [HJ.out], by go_num, trivial⟩
        case measure => simp [intOf]; omega
       ·rw [if_neg hp0] at HJ
        have p0 : (0 : Int) < (p : Int) := by omega
        clear hy hJ hp0
        go_wp2_with fail
        go_roundw
        case rel => exact ⟨p + 1, by omega, by rw [HJ.out], by go_num, trivial⟩
        case measure => simp [intOf]; omega
      ·have hpe : p = nw := by omega
       subst hpe
       have HT : Hid (D.jn (x.ws.take p) = D.jn x.ws) := Lib.hid (by rw [List.take_of_length_le (by rw [<- HNW.out]; exact Nat.le_refl _)])
       rw [HT.out]
       have q1 : (p : Int) <= (p : Int) := Int.le_refl _
       have hpad := pad_unp HRN.out
       have XP := Lib.hid (fun W => Nm.ref_pad (D.sb (D.unp x.n)) W)
       rw [hpad] at XP
       clear hpad
       have hsm : Nm.sm x.n x.n = true := by simp [Nm.sm]
       have hxx : ((D.jn x.ws).toList == (D.jn x.ws).toList) = true := by simp
       have hwh : IntKind.i64.wrap (x.h : Int) = (x.h : Int) := IntWalk.i64_in _ (by omega)
       have hh8 : (x.h : Int) < 8 := by omega
       go_wp2_with fail
       have hS : L1 wr.drew a4 a5 k x aw p cw := L1'.out.on (below_dr_ _)
       refine wp_region_noPanic ?_
       refine wp_region_held_drew (S := fun W => L1 W a4 a5 k x aw p cw) (by kernel_rfl) hS (fun _ => ?_)
       refine takeT 0 (some 92) ?vu0 ?hyu0 hS ?restu0
       case hyu0 => (intro o ho W hW; simp only [gT, gS, gZ, sI] at ho; subst ho; have e1 := hW.n; have e2 := hW.h; have e3 := hW.t; have e4 := hW.d.n; have e5 := hW.d.h; go_simp; try rfl)
       try simp only [Act.put, iT, iZ, iS]
       refine takeT 1 (some 93) ?vu1 ?hyu1 hS ?restu1
       case hyu1 => (intro o ho W hW; simp only [gT, gS, gZ, sI] at ho; subst ho; have e1 := hW.n; have e2 := hW.h; have e3 := hW.t; have e4 := hW.d.n; have e5 := hW.d.h; go_simp; try rfl)
       try simp only [Act.put, iT, iZ, iS]
       refine takeT 2 (some 94) ?vu2 ?hyu2 hS ?restu2
       case hyu2 => (intro o ho W hW; simp only [gT, gS, gZ, sI] at ho; subst ho; have e1 := hW.n; have e2 := hW.h; have e3 := hW.t; have e4 := hW.d.n; have e5 := hW.d.h; go_simp; try rfl)
       try simp only [Act.put, iT, iZ, iS]
       refine takeT 3 (some 95) ?vu3 ?hyu3 hS ?restu3
       case hyu3 => (intro o ho W hW; simp only [gT, gS, gZ, sI] at ho; subst ho; have e1 := hW.n; have e2 := hW.h; have e3 := hW.t; have e4 := hW.d.n; have e5 := hW.d.h; go_simp; try rfl)
       try simp only [Act.put, iT, iZ, iS]
       refine takeT 4 (some 96) ?vu4 ?hyu4 hS ?restu4
       case hyu4 => (intro o ho W hW; simp only [gT, gS, gZ, sI] at ho; subst ho; have e1 := hW.n; have e2 := hW.h; have e3 := hW.t; have e4 := hW.d.n; have e5 := hW.d.h; go_simp; try rfl)
       try simp only [Act.put, iT, iZ, iS]
       refine takeT 5 (some 97) ?vu5 ?hyu5 hS ?restu5
       case hyu5 => (intro o ho W hW; simp only [gT, gS, gZ, sI] at ho; subst ho; have e1 := hW.n; have e2 := hW.h; have e3 := hW.t; have e4 := hW.d.n; have e5 := hW.d.h; go_simp; try rfl)
       try simp only [Act.put, iT, iZ, iS]
       refine takeT 6 (some 98) ?vu6 ?hyu6 hS ?restu6
       case hyu6 => (intro o ho W hW; simp only [gT, gS, gZ, sI] at ho; subst ho; have e1 := hW.n; have e2 := hW.h; have e3 := hW.t; have e4 := hW.d.n; have e5 := hW.d.h; go_simp; try rfl)
       try simp only [Act.put, iT, iZ, iS]
       refine takeT 7 (some 99) ?vu7 ?hyu7 hS ?restu7
       case hyu7 => (intro o ho W hW; simp only [gT, gS, gZ, sI] at ho; subst ho; have e1 := hW.n; have e2 := hW.h; have e3 := hW.t; have e4 := hW.d.n; have e5 := hW.d.h; go_simp; try rfl)
       try simp only [Act.put, iT, iZ, iS]
       refine takeT 8 (some 100) ?vu8 ?hyu8 hS ?restu8
       case hyu8 => (intro o ho W hW; simp only [gT, gS, gZ, sI] at ho; subst ho; have e1 := hW.n; have e2 := hW.h; have e3 := hW.t; have e4 := hW.d.n; have e5 := hW.d.h; go_simp; try rfl)
       try simp only [Act.put, iT, iZ, iS]
       refine takeT 9 (some 101) ?vu9 ?hyu9 hS ?restu9
       case hyu9 => (intro o ho W hW; simp only [gT, gS, gZ, sI] at ho; subst ho; have e1 := hW.n; have e2 := hW.h; have e3 := hW.t; have e4 := hW.d.n; have e5 := hW.d.h; go_simp; try rfl)
       try simp only [Act.put, iT, iZ, iS]
       refine nextS 10 (by kernel_rfl) (by rfl) (fun o ho K hK => ?_)
       simp only [gT, gS, gZ, sI] at ho; subst ho
       go_simp
       (go_at_call 10; (with_reducible refine (XP.out _).mono ?_); rintro en w8 ⟨rfl, b8⟩)
       have hS8 : L1 w8 a4 a5 k x aw p cw := hS.on b8
       have L8 := Lib.hid (((L0.out.on (below_dr_ _)).on b8))
       clear b8
       refine hK.out _ _ hS8 (fun _ => ?_)
       clear hK K
       try simp only [Act.put, iT, iZ, iS]
       refine takeT 11 (some 103) (.bool false) ?hyu11 hS8 ?restu11
       case hyu11 => (intro o ho W hW; simp only [gT, gS, gZ, sI] at ho; subst ho; have e1 := hW.n; have e2 := hW.h; have e3 := hW.t; have e4 := hW.d.n; have e5 := hW.d.h; go_simp; try rfl)
       try simp only [Act.put, iT, iZ, iS]
       refine takeT 12 (some 104) (.bool false) ?hyu12 hS8 ?restu12
       case hyu12 => (intro o ho W hW; simp only [gT, gS, gZ, sI] at ho; subst ho; have e1 := hW.n; have e2 := hW.h; have e3 := hW.t; have e4 := hW.d.n; have e5 := hW.d.h; go_simp; try rfl)
       try simp only [Act.put, iT, iZ, iS]
       refine takeT 13 (some 105) ?vu13 ?hyu13 hS8 ?restu13
       case hyu13 => (intro o ho W hW; simp only [gT, gS, gZ, sI] at ho; subst ho; have e1 := hW.n; have e2 := hW.h; have e3 := hW.t; have e4 := hW.d.n; have e5 := hW.d.h; go_simp; try rfl)
       try simp only [Act.put, iT, iZ, iS]
       refine takeT 14 (some 106) ?vu14 ?hyu14 hS8 ?restu14
       case hyu14 => (intro o ho W hW; simp only [gT, gS, gZ, sI] at ho; subst ho; have e1 := hW.n; have e2 := hW.h; have e3 := hW.t; have e4 := hW.d.n; have e5 := hW.d.h; go_simp; try rfl)
       try simp only [Act.put, iT, iZ, iS]
       refine takeT 15 (some 107) ?vu15 ?hyu15 hS8 ?restu15
       case hyu15 => (intro o ho W hW; simp only [gT, gS, gZ, sI] at ho; subst ho; have e1 := hW.n; have e2 := hW.h; have e3 := hW.t; have e4 := hW.d.n; have e5 := hW.d.h; go_simp; try rfl)
       try simp only [Act.put, iT, iZ, iS]
       refine takeT 16 (some 108) ?vu16 ?hyu16 hS8 ?restu16
       case hyu16 => (intro o ho W hW; simp only [gT, gS, gZ, sI] at ho; subst ho; have e1 := hW.n; have e2 := hW.h; have e3 := hW.t; have e4 := hW.d.n; have e5 := hW.d.h; go_simp; try rfl)
       try simp only [Act.put, iT, iZ, iS]
       refine takeT 17 (some 109) ?vu17 ?hyu17 hS8 ?restu17
       case hyu17 => (intro o ho W hW; simp only [gT, gS, gZ, sI] at ho; subst ho; have e1 := hW.n; have e2 := hW.h; have e3 := hW.t; have e4 := hW.d.n; have e5 := hW.d.h; go_simp; try rfl)
       try simp only [Act.put, iT, iZ, iS]
       refine takeT 18 (some 110) (.int .i64 (x.h : Nat)) ?hyu18 hS8 ?restu18
       case hyu18 => (intro o ho W hW; simp only [gT, gS, gZ, sI] at ho; subst ho; have e1 := hW.n; have e2 := hW.h; have e3 := hW.t; have e4 := hW.d.n; have e5 := hW.d.h; go_simp; try rfl)
       try simp only [Act.put, iT, iZ, iS]
       refine takeT 19 (some 111) ?vu19 ?hyu19 hS8 ?restu19
       case hyu19 => (intro o ho W hW; simp only [gT, gS, gZ, sI] at ho; subst ho; have e1 := hW.n; have e2 := hW.h; have e3 := hW.t; have e4 := hW.d.n; have e5 := hW.d.h; go_simp; try rfl)
       try simp only [Act.put, iT, iZ, iS]
       refine takeT 20 (some 112) ?vu20 ?hyu20 hS8 ?restu20
       case hyu20 => (intro o ho W hW; simp only [gT, gS, gZ, sI] at ho; subst ho; have e1 := hW.n; have e2 := hW.h; have e3 := hW.t; have e4 := hW.d.n; have e5 := hW.d.h; go_simp; try rfl)
       try simp only [Act.put, iT, iZ, iS]
       refine takeT 21 (some 113) ?vu21 ?hyu21 hS8 ?restu21
       case hyu21 => (intro o ho W hW; simp only [gT, gS, gZ, sI] at ho; subst ho; have e1 := hW.n; have e2 := hW.h; have e3 := hW.t; have e4 := hW.d.n; have e5 := hW.d.h; go_simp; try rfl)
       try simp only [Act.put, iT, iZ, iS]
       refine takeT 22 (some 114) ?vu22 ?hyu22 hS8 ?restu22
       case hyu22 => (intro o ho W hW; simp only [gT, gS, gZ, sI] at ho; subst ho; have e1 := hW.n; have e2 := hW.h; have e3 := hW.t; have e4 := hW.d.n; have e5 := hW.d.h; go_simp; try rfl)
       try simp only [Act.put, iT, iZ, iS]
       refine takeT 23 (some 115) ?vu23 ?hyu23 hS8 ?restu23
       case hyu23 => (intro o ho W hW; simp only [gT, gS, gZ, sI] at ho; subst ho; have e1 := hW.n; have e2 := hW.h; have e3 := hW.t; have e4 := hW.d.n; have e5 := hW.d.h; go_simp; try rfl)
       try simp only [Act.put, iT, iZ, iS]
       refine takeT 24 (some 116) (.bool false) ?hyu24 hS8 ?restu24
       case hyu24 => (intro o ho W hW; simp only [gT, gS, gZ, sI] at ho; subst ho; have e1 := hW.n; have e2 := hW.h; have e3 := hW.t; have e4 := hW.d.n; have e5 := hW.d.h; go_simp; try rfl)
       try simp only [Act.put, iT, iZ, iS]
       refine takeT 25 (some 117) (.bool false) ?hyu25 hS8 ?restu25
       case hyu25 => (intro o ho W hW; simp only [gT, gS, gZ, sI] at ho; subst ho; have e1 := hW.n; have e2 := hW.h; have e3 := hW.t; have e4 := hW.d.n; have e5 := hW.d.h; go_simp; try rfl)
       try simp only [Act.put, iT, iZ, iS]
       refine takeT 26 (some 118) ?vu26 ?hyu26 hS8 ?restu26
       case hyu26 => (intro o ho W hW; simp only [gT, gS, gZ, sI] at ho; subst ho; have e1 := hW.n; have e2 := hW.h; have e3 := hW.t; have e4 := hW.d.n; have e5 := hW.d.h; go_simp; try rfl)
       try simp only [Act.put, iT, iZ, iS]
       refine takeT 27 (some 119) ?vu27 ?hyu27 hS8 ?restu27
       case hyu27 => (intro o ho W hW; simp only [gT, gS, gZ, sI] at ho; subst ho; have e1 := hW.n; have e2 := hW.h; have e3 := hW.t; have e4 := hW.d.n; have e5 := hW.d.h; go_simp; try rfl)
       try simp only [Act.put, iT, iZ, iS]
       refine takeT 28 (some 120) ?vu28 ?hyu28 hS8 ?restu28
       case hyu28 => (intro o ho W hW; simp only [gT, gS, gZ, sI] at ho; subst ho; have e1 := hW.n; have e2 := hW.h; have e3 := hW.t; have e4 := hW.d.n; have e5 := hW.d.h; go_simp; try rfl)
       try simp only [Act.put, iT, iZ, iS]
       refine takeT 29 (some 121) ?vu29 ?hyu29 hS8 ?restu29
       case hyu29 => (intro o ho W hW; simp only [gT, gS, gZ, sI] at ho; subst ho; have e1 := hW.n; have e2 := hW.h; have e3 := hW.t; have e4 := hW.d.n; have e5 := hW.d.h; go_simp; try rfl)
       try simp only [Act.put, iT, iZ, iS]
       refine takeT 30 (some 122) ?vu30 ?hyu30 hS8 ?restu30
       case hyu30 => (intro o ho W hW; simp only [gT, gS, gZ, sI] at ho; subst ho; have e1 := hW.n; have e2 := hW.h; have e3 := hW.t; have e4 := hW.d.n; have e5 := hW.d.h; go_simp; try rfl)
       try simp only [Act.put, iT, iZ, iS]
       refine takeT 31 (some 123) ?vu31 ?hyu31 hS8 ?restu31
       case hyu31 => (intro o ho W hW; simp only [gT, gS, gZ, sI] at ho; subst ho; have e1 := hW.n; have e2 := hW.h; have e3 := hW.t; have e4 := hW.d.n; have e5 := hW.d.h; go_simp; try rfl)
       try simp only [Act.put, iT, iZ, iS]
       refine takeT 32 (some 124) ?vu32 ?hyu32 hS8 ?restu32
       case hyu32 => (intro o ho W hW; simp only [gT, gS, gZ, sI] at ho; subst ho; have e1 := hW.n; have e2 := hW.h; have e3 := hW.t; have e4 := hW.d.n; have e5 := hW.d.h; go_simp; try rfl)
       try simp only [Act.put, iT, iZ, iS]
       refine takeT 33 (some 125) (.bool false) ?hyu33 hS8 ?restu33
       case hyu33 => (intro o ho W hW; simp only [gT, gS, gZ, sI] at ho; subst ho; have e1 := hW.n; have e2 := hW.h; have e3 := hW.t; have e4 := hW.d.n; have e5 := hW.d.h; go_simp; try rfl)
       try simp only [Act.put, iT, iZ, iS]
       refine takeT 34 (some 126) (.bool false) ?hyu34 hS8 ?restu34
       case hyu34 => (intro o ho W hW; simp only [gT, gS, gZ, sI] at ho; subst ho; have e1 := hW.n; have e2 := hW.h; have e3 := hW.t; have e4 := hW.d.n; have e5 := hW.d.h; go_simp; try rfl)
       try simp only [Act.put, iT, iZ, iS]
       refine wpAnyH_done (by kernel_rfl) ?_ _
       refine NoPanic.normal ?_
       go_wp2
       go_roundw
       case rel => exact ⟨k + 1, by omega, by go_num, L8.out⟩
       case measure => simp [intOf]; omega
    ·go_wp2_with (go_at_call 7; (with_reducible refine (C3.out _ L0.out.b).mono ?_); rintro e w6 ⟨rfl, b6⟩; have L6 := Lib.hid (L0.out.on b6); clear b6)
     go_ret
     exact ⟨rfl, L6.out.b⟩
 ·have hl := hnone he
  subst hl
  have CU := Lib.hid (fun (F : Nat -> Prop) W u (h : Pm F W 3 u []) (hb : Below w.heap.size w W) => uses_nil F W u h (HG.out.on hb).g)
  have he1 : ((oe : Int) != 0) = true := by simp; exact he
  clear hrt hpz hnone
  go_enter Tryz.func3, Tryz.ntmps3
  go_wp2_with (first
   | (go_at_call 4; (with_reducible refine (C1.out _ HB0.out).mono ?_); rintro e w1 ⟨b1, A1, n1, c1, rfl, p1⟩; have B1 := Lib.hid b1; have P1 := Lib.hid p1; clear b1 p1)
   | (go_at_call 5; (with_reducible refine (C2.out _).mono ?_); rintro e w2 ⟨b2, A2, n2, c2, rfl, m2⟩; have B2 := Lib.hid (B1.out.trans (b2.mono B1.out.size)); have P2 := Lib.hid (P1.out.keep (keeps_below b2)); clear b2 m2)
   | (go_at_call 7; (with_reducible refine (C3.out _ B2.out).mono ?_); rintro e w4 ⟨rfl, b4⟩; have B4 := Lib.hid (B2.out.trans (b4.mono B2.out.size)); have P4 := Lib.hid (P2.out.keep (keeps_below b4)); clear b4)
   | (go_at_call 8; (with_reducible refine (CU.out _ _ _ P4.out B4.out).mono ?_); rintro e w5 ⟨A5, c5, rfl, b5⟩; have B5 := Lib.hid (B4.out.trans (b5.mono B4.out.size)); clear b5))
  go_ret
  exact ⟨rfl, B5.out⟩
end Go.Proofs.YtgnjjlgmlokhmaaGreatDoor
namespace Go.Proofs.YtgnjjlgmlokhmaaGreatDoor
open Go.ChangeShapes Go.WideShapes Go.ChangeAt Go.RowKit

theorem returns_both {H : Type} {enc : TypeId × Value -> H} {a : Assume} {C : Checked} {os : Os} {f : FuncId} {fn : Func} {s : ChangeSpec} {conds : List PathCond} {apart fresh handsOn again : Bool} {X : World -> Array Value -> Prop}
  (hX : ∀ (w w' : World) (args : Array Value), w.heap = w'.heap -> X w args -> X w' args)
  (own : ownKnob C.prog.godebug = none) (started : os.Started) (noInit : C.prog.inits.idxOf? f = none) (hfn : C.prog.funcs[f]? = some fn)
  (witness : ∃ (w : World) (tape : Tape) (i : Input), w.os = os ∧ (w.forCall tape i).Shaped C.prog ∧ i.vars = [] ∧ Input.okWide C.prog (w.forCall tape i) .any w.heap.size f i ∧
   ((s.pre enc C.prog fn conds apart (w.forCall tape i).memory i.args ∧ X (w.forCall tape i).memory i.args) ∧ sizedMet enc C.prog fn (OpenSpec.ofChange s) apart (w.forCall tape i).memory i.args) ∧ a.holds C.prog (lone (Frame.enter C.prog f i.args .normal) [] (w.forCall tape i)))
  (contract : ∀ (W : World) (base : Nat) (args : Array Value) (ds gs : List (DataW H)) (before : List MemPlace),
   (∀ (j : Nat) t v, fn.params[j]? = some t -> args[j]? = some v -> Value.okWide C.prog W .any base t v) ->
   DataW.Whole enc C.prog fn.params.toList s.vars apart W args.toList ds gs before -> X W args -> W.ShapedOpen C.prog ->
   Calls C.prog f args W fun e W' => ∃ v, e = .returned v ∧ s.post enc C.prog fn apart fresh handsOn again W args v W') :
  ReturnsInHanded a C os f .any (fun w args => (s.pre enc C.prog fn conds apart w args ∧ X w args) ∧ sizedMet enc C.prog fn (OpenSpec.ofChange s) apart w args) (s.post enc C.prog fn apart fresh handsOn again) := by
 refine returnsInHanded_of_calls own started noInit witness ?_
 intro w tape i _ hsh _ hok hpre _
 obtain ⟨_, _, _, fn', hfn', _, _, _, _, hval⟩ := hok
 obtain rfl : fn' = fn := Option.some.inj (hfn'.symm.trans hfn)
 obtain ⟨⟨⟨ds, gs, before, hw, _⟩, hx⟩, _⟩ := hpre
 refine (contract (w.forCall tape i) w.heap.size i.args ds gs before hval (DataW.Whole.of_heap (w' := w.forCall tape i) (by rfl) hw) (hX _ _ _ (by rfl) hx) hsh).mono fun e W' ⟨v, he, hp⟩ => ?_
 subst he
 exact ChangeSpec.post_blind hp
theorem laid_find {P : Program} {w : World} : ∀ {laid : List (String × DataW Unit)} {ps : List MemPlace} {n : String} {d : DataW Unit}, DataW.LaidVars P w laid ps -> (n, d) ∈ laid ->
  ∃ g t cs fuel p, P.globalNamed n = some g ∧ (P.globals[g]?).map (·.type) = some t ∧ w.var? P n = some cs ∧ DataW.trod (fun _ => ()) P w 0 (fun _ => true) false fuel t cs.toList = some (d, p)
 | [], ps, n, d, _, hm => by cases hm
 | (m, e) :: r, ps, n, d, h, hm => by
  obtain ⟨g, t, cs, fuel, p, q, h1, h2, h3, h4, h5, _⟩ := h
  rcases List.mem_cons.1 hm with hm | hm
  ·injection hm with e1 e2
   subst e1 e2
   exact ⟨g, t, cs, fuel, p, h1, h2, h3, h4⟩
  ·exact laid_find h5 hm
theorem str_at {w : World} {g : Nat} {nm : String} {cs : Array Value} {xs : List (DataW Unit × List MemPlace)} {m k : Nat} (hg : Tryz.prog.globalNamed nm = some g) (h3 : w.var? Tryz.prog nm = some cs)
  (hf : ∀ i, i < k -> DataW.trod (fun _ => ()) Tryz.prog w 0 (fun _ => true) false m 9 ((cs.toList.drop (i * Tryz.prog.cellsOf 9)).take (Tryz.prog.cellsOf 9)) = xs[i]?) (i : Nat) (hi : i < k) {l : List UInt8}
  (hx : (xs.map (·.1))[i]? = some (.lit (.string l))) : w.cell? ⟨g, i, none⟩ = some (.string ⟨l.toArray⟩) := by
 have hC : Tryz.prog.cellsOf 9 = 1 := by kernel_rfl
 have h := hf i hi
 rw [hC, Nat.mul_one] at h
 rw [List.getElem?_map] at hx
 cases hq : xs[i]? with
 | none => rw [hq] at hx; cases hx
 | some q =>
  rw [hq] at hx h
  obtain ⟨s, e, e2, _⟩ := DataW.trod_string Tryz.underlying9 h
  rw [e2] at hx
  simp only [Option.map_some, Option.some.injEq] at hx
  have hl : s.data.toList = l := Lit.string.inj (DataW.lit.inj hx)
  have hs : s = ⟨l.toArray⟩ := by rw [<- hl]
  rw [World.var?_cell hg h3 i, <- hs]
  have : ((cs.toList.drop i).take 1)[0]? = some (.string s) := by rw [e]; rfl
  rw [List.getElem?_take_of_lt (by omega), List.getElem?_drop, Nat.add_zero] at this
  simpa using this
theorem env_of {w : World} {laid : List (String × DataW Unit)} {d : DataW Unit} (hl : laidMetH Tryz.prog laid w) (hp : (laid.all fun x => x.2.handleName?.isNone) = true) (h1 : ("vulgate/plural.words", d) ∈ laid)
  (hd : d = .agg [.lit (.string [122, 101, 114, 111]), .lit (.string [111, 110, 101]), .lit (.string [116, 119, 111]), .lit (.string [102, 101, 119]), .lit (.string [109, 97, 110, 121]), .lit (.string [111, 116, 104, 101, 114])]) : Env w := by
 rw [MakeChecks.laidMetH_plain _ _ _ hp] at hl
 obtain ⟨ps, hv, _, _⟩ := hl
 obtain ⟨g', t, cs, fuel, p, q1, q2, q3, q4⟩ := laid_find hv h1
 have hg : Tryz.prog.globalNamed "vulgate/plural.words" = some 2 := by kernel_rfl
 rw [hg] at q1
 injection q1 with q1
 subst q1
 have ht : (Tryz.prog.globals[2]?).map (·.type) = some 178 := by kernel_rfl
 rw [ht] at q2
 injection q2 with q2
 subst q2
 obtain ⟨xs, m, _, hx, _, hn, hf⟩ := DataW.trod_array Tryz.underlying178 q4
 subst hd
 have hm : xs.map (·.1) = [.lit (.string [122, 101, 114, 111]), .lit (.string [111, 110, 101]), .lit (.string [116, 119, 111]), .lit (.string [102, 101, 119]), .lit (.string [109, 97, 110, 121]), .lit (.string [111, 116, 104, 101, 114])] := by
  have := (Prod.mk.inj hx).1
  exact (DataW.agg.inj this).symm
 refine ⟨?_, ?_, ?_, ?_, ?_, ?_⟩
 ·exact str_at hg q3 hf 0 (by omega) (by rw [hm]; rfl)
 ·exact str_at hg q3 hf 1 (by omega) (by rw [hm]; rfl)
 ·exact str_at hg q3 hf 2 (by omega) (by rw [hm]; rfl)
 ·exact str_at hg q3 hf 3 (by omega) (by rw [hm]; rfl)
 ·exact str_at hg q3 hf 4 (by omega) (by rw [hm]; rfl)
 ·exact str_at hg q3 hf 5 (by omega) (by rw [hm]; rfl)
theorem knd_of {w : World} {laid : List (String × DataW Unit)} {d : DataW Unit} (hl : laidMetH Tryz.prog laid w) (hp : (laid.all fun x => x.2.handleName?.isNone) = true) (h1 : ("vulgate/skeleton.kinds", d) ∈ laid)
  (hd : d = .agg [.lit (.string []), .lit (.string []), .lit (.string [110, 117, 109, 98, 101, 114]), .lit (.string [112, 108, 117, 114, 97, 108]), .lit (.string [115, 101, 108, 101, 99, 116])]) : Knd w := by
 rw [MakeChecks.laidMetH_plain _ _ _ hp] at hl
 obtain ⟨ps, hv, _, _⟩ := hl
 obtain ⟨g', t, cs, fuel, p, q1, q2, q3, q4⟩ := laid_find hv h1
 have hg : Tryz.prog.globalNamed "vulgate/skeleton.kinds" = some 0 := by kernel_rfl
 rw [hg] at q1
 injection q1 with q1
 subst q1
 have ht : (Tryz.prog.globals[0]?).map (·.type) = some 148 := by kernel_rfl
 rw [ht] at q2
 injection q2 with q2
 subst q2
 obtain ⟨xs, m, _, hx, _, hn, hf⟩ := DataW.trod_array Tryz.underlying148 q4
 subst hd
 have hm : xs.map (·.1) = [.lit (.string []), .lit (.string []), .lit (.string [110, 117, 109, 98, 101, 114]), .lit (.string [112, 108, 117, 114, 97, 108]), .lit (.string [115, 101, 108, 101, 99, 116])] := by
  have := (Prod.mk.inj hx).1
  exact (DataW.agg.inj this).symm
 refine ⟨?_, ?_, ?_, ?_, ?_⟩
 ·exact str_at hg q3 hf 0 (by omega) (by rw [hm]; rfl)
 ·exact str_at hg q3 hf 1 (by omega) (by rw [hm]; rfl)
 ·exact str_at hg q3 hf 2 (by omega) (by rw [hm]; rfl)
 ·exact str_at hg q3 hf 3 (by omega) (by rw [hm]; rfl)
 ·exact str_at hg q3 hf 4 (by omega) (by rw [hm]; rfl)
theorem tp_of {w : World} {laid : List (String × DataW Unit)} {d : DataW Unit} (hl : laidMetH Tryz.prog laid w) (hp : (laid.all fun x => x.2.handleName?.isNone) = true) (h1 : ("internal/strconv.uint64pow10", d) ∈ laid) (hd : d = Lib.tabData .u64 Lib.pow10Tab) : Tp w := by
 rw [MakeChecks.laidMetH_plain _ _ _ hp] at hl
 obtain ⟨ps, hv, _, _⟩ := hl
 obtain ⟨g', t, cs, fuel, p, q1, q2, q3, q4⟩ := laid_find hv h1
 have hg : Tryz.prog.globalNamed "internal/strconv.uint64pow10" = some 3 := by kernel_rfl
 rw [hg] at q1
 injection q1 with q1
 subst q1
 have ht : (Tryz.prog.globals[3]?).map (·.type) = some 193 := by kernel_rfl
 rw [ht] at q2
 injection q2 with q2
 subst q2
 rw [hd] at q4
 have h := Lib.cells_of_tab Tryz.underlying193 Tryz.underlying62 (by kernel_rfl) (by kernel_rfl) q4
 unfold Tp Lib.TabIs
 rw [q3, <- h]
theorem gw_of {w : World} {laid : List (String × DataW Unit)} {d1 d2 d3 : DataW Unit} (hl : laidMetH Tryz.prog laid w) (hp : (laid.all fun x => x.2.handleName?.isNone) = true) (h1 : ("vulgate/plural.words", d1) ∈ laid) (h2 : ("vulgate/skeleton.kinds", d2) ∈ laid) (h3 : ("internal/strconv.uint64pow10", d3) ∈ laid)
  (e1 : d1 = .agg [.lit (.string [122, 101, 114, 111]), .lit (.string [111, 110, 101]), .lit (.string [116, 119, 111]), .lit (.string [102, 101, 119]), .lit (.string [109, 97, 110, 121]), .lit (.string [111, 116, 104, 101, 114])]) (e2 : d2 = .agg [.lit (.string []), .lit (.string []), .lit (.string [110, 117, 109, 98, 101, 114]), .lit (.string [112, 108, 117, 114, 97, 108]), .lit (.string [115, 101, 108, 101, 99, 116])]) (e3 : d3 = Lib.tabData .u64 Lib.pow10Tab) : Gw w := ⟨⟨env_of hl hp h1 e1, knd_of hl hp h2 e2⟩, tp_of hl hp h3 e3⟩
end Go.Proofs.YtgnjjlgmlokhmaaGreatDoor
