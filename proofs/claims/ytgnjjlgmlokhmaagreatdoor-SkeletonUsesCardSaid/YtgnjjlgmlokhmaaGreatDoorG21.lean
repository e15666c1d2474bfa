/-
  
-/
import Derived.Test.YtgnjjlgmlokhmaaGreatDoorG20
import Derived.Maps.RangeWalk
import Derived.Maps.OwnSet
set_option linter.unusedVariables false
set_option linter.unusedSimpArgs false
set_option maxRecDepth 100000
namespace Go.Proofs.YtgnjjlgmlokhmaaGreatDoor
open Go.RowKit
attribute [local go_sem ↓] Go.wp_at_zero Go.wp_at_succ Nm.ld_a Nm.ld_n Nm.st_a Nm.st_n Nm.lv_a Nm.lv_n ld_nd lv_nd st_nd bd_nd bs_nd
attribute [local go_sem] Nm.run_ld_a Nm.run_ld_n Nm.run_lv_a Nm.run_lv_n Nm.rd_new Nm.rd_old Nm.rd_drew Nm.rd_drewN Nm.st_z run_lvnd run_ldnd run_stnd_new run_bsnd run_bdnd_1 run_bdnd_5 run_bdnd_0 Shp.rd_new Shp.rd_old Shp.rd_drew Shp.rd_drewN

structure Mv (s : ByteArray) (v : Bool) (p : Nat -> D.Ot) (o : D.Ot) (r base : Nat) (w : World) (I : Nat) (A : Option Addr) (n c : Nat) : Prop where
 out : ∃ (f : Nat) (acc : List D.Nd), s.size < I + f ∧ n <= I ∧ D.mes (D.ns s) v p f I acc = o ∧ Pcr r base w A n c acc
theorem mes_text {l : List Nat} {v : Bool} {p : Nat -> D.Ot} {f I K : Nat} {acc : List D.Nd} (hK : D.far (D.plB v) l I = K) (h : I < K) : D.mes l v p (f + 1) I acc = D.mes l v p (f + 1) K (acc ++ [.mk 0 (D.sub l I K) [] [] []]) := by
 have hKK : D.far (D.plB v) l K = K := by
  subst hK
  cases hx : l[D.far (D.plB v) l I]? with
  | none => exact D.far_end (List.getElem?_eq_none_iff.1 hx)
  | some c => exact D.far_stop hx (D.far_at (l.length - I) (Nat.le_refl _) hx)
 rw [D.mes_eq hK (if_pos h), D.mes_eq hKK (if_neg (Nat.lt_irrefl K))]
theorem D.nb_some {l : List Nat} {I x : Nat} (h : D.nb l I 0 = x) (hx : x ≠ 0) : l[I]? = some x := (nb_is hx).1 h
theorem D.nb_non {l : List Nat} {I x : Nat} (h : D.nb l I 0 = x) {c : Nat} (hc : c ≠ 0) (hn : x ≠ c) : l[I]? ≠ some c := fun e => hn (by rw [<- h]; exact (nb_is hc).2 e)
set_option maxHeartbeats 8000000 in
theorem message_p (s : ByteArray) (g d r i : Nat) (v : Bool) (p : Nat -> D.Ot) (o : D.Ot) (w : World) (hs : s.size <= 60) (hi : i <= s.size) (h : Rdr w g s i 0) (hG : Glb w g)
  (ho : D.mes (D.ns s) v p (s.size + 1) i [] = o)
  (hp : ∀ q W', (D.ns s)[q]? = some 123 -> Rdr W' g s q 0 -> Glb W' g -> Calls Tryz.prog 23 #[vr g, .agg #[.int .i64 (d : Nat), .bool v]] W' (Plq s g r (p (q + 1)) W'))
  (hq : ∀ q, q <= s.size -> (p q).a <= s.size ∧ ((p q).e = 0 -> q < (p q).a)) :
  Calls Tryz.prog 11 #[vr g, .agg #[.int .i64 (d : Nat), .bool v]] w (Mq s g r o w) := by
 have hlen := D.ns_len s
 have hgl := h.lt
 have h256 := ns_lt s
 have HP := Lib.hid hp
 have HQ := Lib.hid hq
 have HN := Lib.hid (fun a e W (hW : Rdr W g s a e) (ha : a <= s.size) => next_any s g a e W hW ha)
 have HT := Lib.hid (fun x W (hx : x < 256) => textByte_any d v x hx W)
 have HK := Lib.hid (fun a W (hW : Rdr W g s a 0) (ha : a <= s.size) (x : Nat) (hx : x = 35) => take_any s g a 0 35 W hW ha (by omega) (by decide) (x : Int) (by omega))
 have HW := Lib.hid (fun a W (hW : Rdr W g s a 0) (ha : a <= s.size) => while_text s g a 0 d v W hW ha (by omega))
 have H2 := Lib.hid h256
 have HH := Lib.hid h
 have HG := Lib.hid hG
 have HO := Kept.mk ho
 clear h hG hp hq ho h256
 go_enter Tryz.func11, Tryz.ntmps11
 go_wp2_with fail
 go_loopw [5] (fun a wr => ∃ (I e n c : Nat) (A : Option Addr), I <= s.size ∧ a = .slice A n c ∧ Hid (Rdr wr g s I e) ∧ Hid (Blk wr w.heap.size 48 #[.int .i64 (d : Nat), .bool v]) ∧ Hid (Fr (· = g) w wr) ∧ Kept (e = 0 -> Mv s v p o r (w.heap.size + 1) wr I A n c) ∧ Kept (e ≠ 0 -> o.a = I ∧ o.e = e)) (fun _ wr => rz s wr g)
 case atStart =>
  exact ⟨i, 0, 0, 0, none, hi, rfl, Lib.hid (HH.out.on (below_alloc_ _ _)), Lib.hid (Blk.new _ _ _), Lib.hid ((Fr.refl _ _).alloc _), ⟨fun _ => ⟨s.size + 1, [], by omega, Nat.zero_le _, HO.out, Pcr.nil _ (by simp)⟩⟩, ⟨fun h => absurd rfl h⟩⟩
 case round =>
  obtain ⟨I, e, n, c, A, hI, rfl, HR, HB, HF, HL, HE⟩ := hrel
  obtain ⟨wo, rfl⟩ : ∃ wo : World, wo = wr := ⟨_, rfl⟩
  have hsz := HF.out.size
  have hmz := HR.out.rz
  have hBl := HB.out.lt
  by_cases he : e = 0
  ·subst he
   obtain ⟨f0, acc, hf0, hnI, hmes, hpc⟩ := (HL.out rfl).out
   obtain ⟨f, rfl⟩ : ∃ f, f0 = f + 1 := ⟨f0 - 1, by omega⟩
   have HPC := Lib.hid hpc
   have hx256 := D.nb_lt H2.out I 0
   have CN := HN.out I 0 wo HR.out hI
   have hend := D.far_ends (p := D.plB v) (l := D.ns s) (I := I) (by cases v <;> rfl)
   have hgo := D.far_goes (p := D.plB v) (l := D.ns s) (I := I)
   have hwe := D.wf_end (p := D.plB v) (l := D.ns s) (k := I) (e := 0)
   obtain ⟨x, hx⟩ : ∃ x, D.nb (D.ns s) I 0 = x := ⟨_, rfl⟩
   rw [hx] at CN hx256 hend hgo hwe
   rw [D.wf_live] at hwe
   have CN := Lib.hid CN
   have CT := Lib.hid (fun W => HT.out x W hx256)
   clear HL HE HN HT hpc
   by_cases h123 : x = 123
   ·have i123 : ((x : Int) == 123) = true := by simp; omega
    have hl := D.nb_some hx (by omega)
    rw [h123] at hl
    have hIl := (List.getElem?_eq_some_iff.1 hl).1
    have hfar : D.far (D.plB v) (D.ns s) I = I := D.far_stop hl (by cases v <;> rfl)
    rw [D.mes_eq hfar (if_neg (Nat.lt_irrefl I)), if_neg (by rw [hl]; decide), if_neg (by simp [hl])] at hmes
    obtain ⟨hy1, hy2⟩ := HQ.out (I + 1) (by omega)
    have CP := fun W (hb : Below wo.heap.size wo W) => HP.out I W hl (HR.out.on hb) (HG.out.fr (HF.out.step (Fr.of_below hb (Nat.le_refl _))))
    obtain ⟨y, hy⟩ : ∃ y, p (I + 1) = y := ⟨_, rfl⟩
    rw [hy] at hmes hy1 hy2 CP
    have CPP := Lib.hid CP
    clear CP hx hwe hgo hend hfar h123 HP HQ hy
    by_cases he2 : y.e = 0
    ·rw [if_neg (by simpa using he2)] at hmes
     have hy3 := hy2 he2
     have HMES := Kept.mk hmes
     have HE2 := Lib.hid he2
     clear hmes he2
     go_wp2_with (first
      | (go_at_call 22; (with_reducible refine CN.out.mono ?_); rintro e1 w1 ⟨rfl, b1⟩; have B1 := Lib.hid b1; have k1 := HB.out.on b1; have c0 := k1.c_ 0; have c1 := k1.c_ 1; have c3 := k1.lt; clear k1 b1)
      | (go_at_call 23; (with_reducible refine (CPP.out _ B1.out).mono ?_); rintro e2 w2 ⟨yy, rfl, r2_, f2_, p2_⟩
         obtain ⟨nd, A2, m2, c2, hyl, rfl, hpe⟩ := p2_ HE2.out
         have HYL := Kept.mk hyl
         have HPE := Lib.hid hpe
         have R2 := Lib.hid r2_
         have F2 := Lib.hid ((Fr.of_below (S := (· = g)) B1.out (Nat.le_refl _)).step f2_)
         have hs2 := F2.out.size
         have hf2 := f2_.size
         have hb1 := B1.out.size
         have P2 := Lib.hid (HPC.out.fr F2.out (fun j e => by have e' : j = g := e; omega))
         have K2 := Lib.hid (F2.out.blk HB.out (by omega))
         clear r2_ f2_ p2_ hyl hpe)
      | (at_builtin; refine napp8 rfl (.tmp 13) (.tmp 17) rfl rfl (P2.out.on (below_alloc_ _ _)) rfl (p := ⟨A2, m2, c2⟩) (rw_node w2 _ rfl _ _) ((HPE.out.keep (keeps_below (below_alloc_ _ _))).weaken fun b _ hb => ⟨by have hb' : w1.heap.size <= b := hb; omega, fun e => by have hb' : w1.heap.size <= b := hb; have := (HPC.out.own_lt b e).2; omega⟩) (by omega) ?_; intro A3 c3 w3 h3 hb3 hg3
         have H3 := Lib.hid h3
         have fa := ((Fr.refl (fun j => (Value.slice A n c).ownBlock = some j) w2).alloc (.cells (nS.v (nv nd A2 m2 c2)) 80)).step (fr_own hg3)
         have R3 := Lib.hid (R2.out.fr fa (fun e => by have := (HPC.out.own_lt _ e).1; omega))
         have K3 := Lib.hid (fa.blk K2.out (fun e => by have := (HPC.out.own_lt _ e).1; omega))
         have F3 := Lib.hid (HF.out.trans ((F2.out.mono (S' := fun j => j = g ∨ (Value.slice A n c).ownBlock = some j) fun j _ e => Or.inl e).step (fa.mono fun j _ e => Or.inr e)) (fun j hj e => by rcases e with e | e; exact e; have := (HPC.out.own_lt _ e).1; omega))
         clear h3 hb3 hg3))
     go_roundw
     case rel => exact ⟨y.a, y.e, n + 1, c3, A3, hy1, rfl, R3, K3, F3, ⟨fun _ => ⟨f, acc ++ [nd], by omega, by omega, by have := HMES.out; rw [HYL.out] at this; exact this, H3.out⟩⟩, ⟨fun h => absurd HE2.out h⟩⟩
     case measure =>
      have h6 := R3.out.rz
      rw [hmz, h6, if_pos trivial, if_pos HE2.out]
      omega
    ·rw [if_pos he2] at hmes
     have HMES := Kept.mk hmes
     have HE2 := Lib.hid he2
     obtain ⟨vs, hov, _, _⟩ := HPC.out.out
     have HOV := Lib.hid hov
     clear hmes he2 hov
     go_wp2_with (first
      | (go_at_call 22; (with_reducible refine CN.out.mono ?_); rintro e1 w1 ⟨rfl, b1⟩; have B1 := Lib.hid b1; have k1 := HB.out.on b1; have c0 := k1.c_ 0; have c1 := k1.c_ 1; have c3 := k1.lt; clear k1 b1)
      | (go_at_call 23; (with_reducible refine (CPP.out _ B1.out).mono ?_); rintro e2 w2 ⟨yy, rfl, r2_, f2_, p2_⟩
         have R2 := Lib.hid r2_
         have F2 := Lib.hid ((Fr.of_below (S := (· = g)) B1.out (Nat.le_refl _)).step f2_)
         have hs2 := F2.out.size
         have O2 := Lib.hid (HOV.out.fr F2.out (fun j h1 h2 e => by have e' : j = g := e; omega))
         have K2 := Lib.hid (F2.out.blk HB.out (by omega))
         clear r2_ f2_ p2_)
      | (at_builtin; refine napp9 rfl (.tmp 13) (.tmp 17) rfl rfl (O2.out.on (below_alloc_ _ _)) rfl (rw_node w2 _ rfl _ _) (by omega) ?_; intro A3 c3 w3 h3 hb3 hg3
         have fa := ((Fr.refl (fun j => (Value.slice A n c).ownBlock = some j) w2).alloc (.cells (nS.v (yy)) 80)).step (fr_own hg3)
         have R3 := Lib.hid (R2.out.fr fa (fun e => by have := (HPC.out.own_lt _ e).1; omega))
         have K3 := Lib.hid (fa.blk K2.out (fun e => by have := (HPC.out.own_lt _ e).1; omega))
         have F3 := Lib.hid (HF.out.trans ((F2.out.mono (S' := fun j => j = g ∨ (Value.slice A n c).ownBlock = some j) fun j _ e => Or.inl e).step (fa.mono fun j _ e => Or.inr e)) (fun j hj e => by rcases e with e | e; exact e; have := (HPC.out.own_lt _ e).1; omega))
         clear h3 hb3 hg3))
     go_roundw
     case rel => exact ⟨y.a, y.e, n + 1, c3, A3, hy1, rfl, R3, K3, F3, ⟨fun h => absurd h HE2.out⟩, ⟨fun _ => by rw [HMES.out]; exact ⟨rfl, rfl⟩⟩⟩
     case measure =>
      have h6 := R3.out.rz
      rw [hmz, h6, if_pos trivial, if_neg HE2.out]
      omega
   ·have i123 : ((x : Int) == 123) = false := by simp; omega
    by_cases h35 : x = 35
    ·cases v with
     | true =>
      have i35 : ((x : Int) == 35) = true := by simp; omega
      have hl := D.nb_some hx (by omega)
      rw [h35] at hl
      have hIl := (List.getElem?_eq_some_iff.1 hl).1
      have hfar : D.far (D.plB true) (D.ns s) I = I := D.far_stop hl (by rfl)
      rw [D.mes_eq hfar (if_neg (Nat.lt_irrefl I)), if_pos hl] at hmes
      have HMES := Kept.mk hmes
      have CK := Lib.hid (fun W (hb : Below wo.heap.size wo W) => (by have := HK.out I W (HR.out.on hb) hI x h35; rw [D.tk_live hl] at this; exact this : Calls Tryz.prog 24 #[vr g, .int .u8 (x : Nat)] W fun y w' => y = .returned (.tuple #[]) ∧ Rdr w' g s (I + 1) 0 ∧ Fr (· = g) W w'))
      clear hmes hx hwe hgo hend hl hfar h35 HW HK HP HQ CT
      go_wp2_with (first
       | (go_at_call 22; (with_reducible refine CN.out.mono ?_); rintro e1 w1 ⟨rfl, b1⟩; have B1 := Lib.hid b1; have k1 := HB.out.on b1; have c0 := k1.c_ 0; have c1 := k1.c_ 1; have c3 := k1.lt; clear k1 b1)
       | (go_at_call 24; (with_reducible refine (CK.out _ B1.out).mono ?_); rintro e3 w4 ⟨rfl, r4_, f4_⟩
          have R2 := Lib.hid r4_
          have F2 := Lib.hid ((Fr.of_below (S := (· = g)) B1.out (Nat.le_refl _)).step f4_)
          have hs2 := F2.out.size
          have P2 := Lib.hid (HPC.out.fr F2.out (fun j e => by have e' : j = g := e; omega))
          have K2 := Lib.hid (F2.out.blk HB.out (by omega))
          clear r4_ f4_)
       | (at_builtin; refine napp8 rfl (.tmp 29) (.tmp 31) rfl rfl (P2.out.on (below_alloc_ _ _)) rfl (y := .mk 5 [] [] [] []) (p := ⟨none, 0, 0⟩) (rw_node w4 _ rfl _ _) (pel_leaf (fun c hc => by cases hc) (fun c hc => by cases hc)) (by omega) ?_; intro A3 c3 w3 h3 hb3 hg3
          have H3 := Lib.hid h3
          have fa := ((Fr.refl (fun j => (Value.slice A n c).ownBlock = some j) w4).alloc (.cells (nS.v (nv (.mk 5 [] [] [] []) none 0 0)) 80)).step (fr_own hg3)
          have R3 := Lib.hid (R2.out.fr fa (fun e => by have := (HPC.out.own_lt _ e).1; omega))
          have K3 := Lib.hid (fa.blk K2.out (fun e => by have := (HPC.out.own_lt _ e).1; omega))
          have F3 := Lib.hid (HF.out.trans ((F2.out.mono (S' := fun j => j = g ∨ (Value.slice A n c).ownBlock = some j) fun j _ e => Or.inl e).step (fa.mono fun j _ e => Or.inr e)) (fun j hj e => by rcases e with e | e; exact e; have := (HPC.out.own_lt _ e).1; omega))
          clear h3 hb3 hg3))
      go_roundw
      case rel => exact ⟨I + 1, 0, n + 1, c3, A3, by omega, rfl, R3, K3, F3, ⟨fun _ => ⟨f, acc ++ [.mk 5 [] [] [] []], by omega, by omega, HMES.out, H3.out⟩⟩, ⟨fun h => absurd rfl h⟩⟩
      case measure =>
       have h6 := R3.out.rz
       rw [hmz, h6, if_pos trivial, if_pos rfl]
       omega
     | false =>
      have i35 : ((x : Int) == 35) = true := by simp; omega
      have hpl : D.plB false x = true := by rw [h35]; rfl
      have hK1 := (D.wf_go (p := D.plB false) (l := D.ns s) (k := I) (e := 0) (by rfl) (by rw [hx]; exact hpl)).2.2
      rw [D.wf_live, D.wf_live] at hK1
      have hK2 := D.far_ge (D.plB false) (D.ns s) (I + 1)
      obtain ⟨K, hK⟩ : ∃ K, D.far (D.plB false) (D.ns s) I = K := ⟨_, rfl⟩
      rw [hK] at hK1
      have hKI : I < K := by omega
      have hKs : K <= s.size := by rw [<- hK, <- hlen]; exact D.far_le (by rw [hlen]; exact hI)
      rw [mes_text hK hKI] at hmes
      have HMES := Kept.mk hmes
      have CW := Lib.hid (fun W (hb : Below wo.heap.size wo W) => (by have := HW.out I W (HR.out.on hb) hI; rw [D.wf_live, hK] at this; exact this : Calls Tryz.prog 26 #[vr g, .func (.func 25) #[.agg #[.int .i64 (d : Nat), .bool false]] #[]] W fun x w' => x = .returned (.string (D.sb (D.sub (D.ns s) I K))) ∧ Rdr w' g s K 0 ∧ Fr (· = g) W w'))
      have hbt := sub_lt H2.out I K
      obtain ⟨t, ht⟩ : ∃ t, D.sub (D.ns s) I K = t := ⟨_, rfl⟩
      have hm2 := HMES.out
      rw [ht] at CW hbt hm2
      have HBT := Lib.hid hbt
      have HM2 := Kept.mk hm2
      rw [hpl] at CT
      clear hmes HMES hx hwe hgo hend hK hK1 hK2 HW HK HP HQ hbt ht hm2 hpl h35
      go_wp2_with (first
       | (go_at_call 22; (with_reducible refine CN.out.mono ?_); rintro e1 w1 ⟨rfl, b1⟩; have B1 := Lib.hid b1; have k1 := HB.out.on b1; have c0 := k1.c_ 0; have c1 := k1.c_ 1; have c3 := k1.lt; clear k1 b1)
       | (go_at_call 25; (with_reducible refine (CT.out _).mono ?_); rintro e2 w2 ⟨rfl, b2⟩; have B2 := Lib.hid (B1.out.trans (b2.mono B1.out.size)); have k2 := HB.out.on B2.out; have d0 := k2.c_ 0; have d1 := k2.c_ 1; have d3 := k2.lt; clear k2 b2)
       | (go_at_call 26; (with_reducible refine (CW.out _ B2.out).mono ?_); rintro e3 w4 ⟨rfl, r4_, f4_⟩
          have R2 := Lib.hid r4_
          have F2 := Lib.hid ((Fr.of_below (S := (· = g)) B2.out (Nat.le_refl _)).step f4_)
          have hs2 := F2.out.size
          have P2 := Lib.hid (HPC.out.fr F2.out (fun j e => by have e' : j = g := e; omega))
          have K2 := Lib.hid (F2.out.blk HB.out (by omega))
          clear r4_ f4_)
       | (at_builtin; refine napp8 rfl (.tmp 37) (.tmp 43) rfl rfl (P2.out.on (below_alloc_ _ _)) rfl (y := .mk 0 t [] [] []) (p := ⟨none, 0, 0⟩) (rw_node w4 _ rfl _ _) (pel_leaf HBT.out (fun c hc => by cases hc)) (by omega) ?_; intro A3 c3 w3 h3 hb3 hg3
          have H3 := Lib.hid h3
          have fa := ((Fr.refl (fun j => (Value.slice A n c).ownBlock = some j) w4).alloc (.cells (nS.v (nv (.mk 0 t [] [] []) none 0 0)) 80)).step (fr_own hg3)
          have R3 := Lib.hid (R2.out.fr fa (fun e => by have := (HPC.out.own_lt _ e).1; omega))
          have K3 := Lib.hid (fa.blk K2.out (fun e => by have := (HPC.out.own_lt _ e).1; omega))
          have F3 := Lib.hid (HF.out.trans ((F2.out.mono (S' := fun j => j = g ∨ (Value.slice A n c).ownBlock = some j) fun j _ e => Or.inl e).step (fa.mono fun j _ e => Or.inr e)) (fun j hj e => by rcases e with e | e; exact e; have := (HPC.out.own_lt _ e).1; omega))
          clear h3 hb3 hg3))
      go_roundw
      case rel => exact ⟨K, 0, n + 1, c3, A3, hKs, rfl, R3, K3, F3, ⟨fun _ => ⟨f + 1, acc ++ [.mk 0 t [] [] []], by omega, by omega, HM2.out, H3.out⟩⟩, ⟨fun h => absurd rfl h⟩⟩
      case measure =>
       have h6 := R3.out.rz
       rw [hmz, h6, if_pos trivial, if_pos rfl]
       omega
    ·have i35 : ((x : Int) == 35) = false := by simp; omega
     cases hpl : D.plB v x with
     | true =>
      have hK1 := (D.wf_go (p := D.plB v) (l := D.ns s) (k := I) (e := 0) (by cases v <;> rfl) (by rw [hx]; exact hpl)).2.2
      rw [D.wf_live, D.wf_live] at hK1
      have hK2 := D.far_ge (D.plB v) (D.ns s) (I + 1)
      obtain ⟨K, hK⟩ : ∃ K, D.far (D.plB v) (D.ns s) I = K := ⟨_, rfl⟩
      rw [hK] at hK1
      have hKI : I < K := by omega
      have hKs : K <= s.size := by rw [<- hK, <- hlen]; exact D.far_le (by rw [hlen]; exact hI)
      rw [mes_text hK hKI] at hmes
      have HMES := Kept.mk hmes
      have CW := Lib.hid (fun W (hb : Below wo.heap.size wo W) => (by have := HW.out I W (HR.out.on hb) hI; rw [D.wf_live, hK] at this; exact this : Calls Tryz.prog 26 #[vr g, .func (.func 25) #[.agg #[.int .i64 (d : Nat), .bool v]] #[]] W fun x w' => x = .returned (.string (D.sb (D.sub (D.ns s) I K))) ∧ Rdr w' g s K 0 ∧ Fr (· = g) W w'))
      have hbt := sub_lt H2.out I K
      obtain ⟨t, ht⟩ : ∃ t, D.sub (D.ns s) I K = t := ⟨_, rfl⟩
      have hm2 := HMES.out
      rw [ht] at CW hbt hm2
      have HBT := Lib.hid hbt
      have HM2 := Kept.mk hm2
      rw [hpl] at CT
      clear hmes HMES hx hwe hgo hend hK hK1 hK2 HW HK HP HQ hbt ht hm2 hpl h35
      go_wp2_with (first
       | (go_at_call 22; (with_reducible refine CN.out.mono ?_); rintro e1 w1 ⟨rfl, b1⟩; have B1 := Lib.hid b1; have k1 := HB.out.on b1; have c0 := k1.c_ 0; have c1 := k1.c_ 1; have c3 := k1.lt; clear k1 b1)
       | (go_at_call 25; (with_reducible refine (CT.out _).mono ?_); rintro e2 w2 ⟨rfl, b2⟩; have B2 := Lib.hid (B1.out.trans (b2.mono B1.out.size)); have k2 := HB.out.on B2.out; have d0 := k2.c_ 0; have d1 := k2.c_ 1; have d3 := k2.lt; clear k2 b2)
       | (go_at_call 26; (with_reducible refine (CW.out _ B2.out).mono ?_); rintro e3 w4 ⟨rfl, r4_, f4_⟩
          have R2 := Lib.hid r4_
          have F2 := Lib.hid ((Fr.of_below (S := (· = g)) B2.out (Nat.le_refl _)).step f4_)
          have hs2 := F2.out.size
          have P2 := Lib.hid (HPC.out.fr F2.out (fun j e => by have e' : j = g := e; omega))
          have K2 := Lib.hid (F2.out.blk HB.out (by omega))
          clear r4_ f4_)
       | (at_builtin; refine napp8 rfl (.tmp 37) (.tmp 43) rfl rfl (P2.out.on (below_alloc_ _ _)) rfl (y := .mk 0 t [] [] []) (p := ⟨none, 0, 0⟩) (rw_node w4 _ rfl _ _) (pel_leaf HBT.out (fun c hc => by cases hc)) (by omega) ?_; intro A3 c3 w3 h3 hb3 hg3
          have H3 := Lib.hid h3
          have fa := ((Fr.refl (fun j => (Value.slice A n c).ownBlock = some j) w4).alloc (.cells (nS.v (nv (.mk 0 t [] [] []) none 0 0)) 80)).step (fr_own hg3)
          have R3 := Lib.hid (R2.out.fr fa (fun e => by have := (HPC.out.own_lt _ e).1; omega))
          have K3 := Lib.hid (fa.blk K2.out (fun e => by have := (HPC.out.own_lt _ e).1; omega))
          have F3 := Lib.hid (HF.out.trans ((F2.out.mono (S' := fun j => j = g ∨ (Value.slice A n c).ownBlock = some j) fun j _ e => Or.inl e).step (fa.mono fun j _ e => Or.inr e)) (fun j hj e => by rcases e with e | e; exact e; have := (HPC.out.own_lt _ e).1; omega))
          clear h3 hb3 hg3))
      go_roundw
      case rel => exact ⟨K, 0, n + 1, c3, A3, hKs, rfl, R3, K3, F3, ⟨fun _ => ⟨f + 1, acc ++ [.mk 0 t [] [] []], by omega, by omega, HM2.out, H3.out⟩⟩, ⟨fun h => absurd rfl h⟩⟩
      case measure =>
       have h6 := R3.out.rz
       rw [hmz, h6, if_pos trivial, if_pos rfl]
       omega
     | false =>
      have hfar := hwe hpl
      rw [D.mes_eq hfar (if_neg (Nat.lt_irrefl I)), if_neg (D.nb_non hx (by decide) h35), if_pos (D.nb_non hx (by decide) h123)] at hmes
      have HMES := Kept.mk hmes
      rw [hpl] at CT
      clear hmes hx hwe hgo hend hfar h35 h123 HW HK HP HQ hpl
      go_wp2_with (first
       | (go_at_call 22; (with_reducible refine CN.out.mono ?_); rintro e1 w1 ⟨rfl, b1⟩; have B1 := Lib.hid b1; have k1 := HB.out.on b1; have c0 := k1.c_ 0; have c1 := k1.c_ 1; have c3 := k1.lt; clear k1 b1)
       | (go_at_call 25; (with_reducible refine (CT.out _).mono ?_); rintro e2 w2 ⟨rfl, b2⟩; have B2 := Lib.hid (B1.out.trans (b2.mono B1.out.size)); clear b2))
      go_ret
      refine ⟨A, n, c, rfl, by rw [<- HMES.out]; exact HR.out.on B2.out, HF.out.step (Fr.of_below B2.out (Nat.le_refl _)), fun _ => ?_⟩
      rw [<- HMES.out]
      exact ((HPC.out.on B2.out).done).weaken fun b _ hb => by have hb' : w.heap.size + 1 <= b := hb; omega
  ·have CN := Lib.hid (fun W (hb : Below wo.heap.size wo W) => next_dead s g I e W (HR.out.on hb) he hI)
   have CZ := Lib.hid (text_zero d v)
   have HEE := Kept.mk (HE.out he)
   have HNE := Kept.mk he
   clear HL HE HN HT he HP HQ
   go_wp2_with (first
    | (go_at_call 22; (with_reducible refine (CN.out wo (Below.refl _ _)).mono ?_); rintro y w1 ⟨rfl, b1⟩; have B1 := Lib.hid b1; have k1 := HB.out.on b1; have c0 := k1.c_ 0; have c1 := k1.c_ 1; have c3 := k1.lt; clear k1 b1)
    | (go_at_call 25; (with_reducible refine (CZ.out _).mono ?_); rintro y w2 ⟨rfl, b2⟩))
   go_ret
   have hb := B1.out.trans (b2.mono B1.out.size)
   refine ⟨A, n, c, rfl, ?_, HF.out.step (Fr.of_below hb (Nat.le_refl _)), fun h0 => absurd (HEE.out.2.symm.trans h0) HNE.out⟩
   rw [HEE.out.1, HEE.out.2]
   exact HR.out.on hb
end Go.Proofs.YtgnjjlgmlokhmaaGreatDoor
namespace Go.Proofs.YtgnjjlgmlokhmaaGreatDoor
open Go.RowKit
attribute [local go_sem ↓] Go.wp_at_zero Go.wp_at_succ

theorem pmsg_any (s : ByteArray) (hs : s.size <= 60) (g : Nat) : ∀ (r d : Nat), d + r = 3 -> ∀ (v : Bool) (i : Nat) (w : World), i <= s.size -> Rdr w g s i 0 -> Glb w g ->
  Calls Tryz.prog 11 #[vr g, .agg #[.int .i64 (d : Nat), .bool v]] w (Mq s g r (D.msg (D.ns s) r v i) w)
 | 0, d, hd, v, i, w, hi, h, hG => by
  have hlen := D.ns_len s
  refine message_p s g d 0 i v (D.plc (D.ns s) (fun _ i => D.er_ i 19) true v) _ w hs hi h hG (by rw [D.msg, hlen]) (fun q W' hq hR hGW => ?_) (fun q hq => ?_)
  ·exact place_p s g d 0 q v true (fun _ i => D.er_ i 19) _ W' hs hq hR hGW rfl (fun _ => by omega) (fun h => by cases h)
  ·refine ⟨?_, fun he => ?_⟩
   ·rw [<- hlen]; exact D.plc_le (fun h => by cases h) (by rw [hlen]; exact hq)
   ·obtain ⟨x, e1, _, _, e4, e5⟩ := D.plc_good (l := D.ns s) (m := fun _ i => D.er_ i 19) (deep := true) (w := v) (P := fun _ _ => False) (fun h => by cases h) q (by rw [hlen]; exact hq) he
    exact e4
 | r + 1, d, hd, v, i, w, hi, h, hG => by
  have hlen := D.ns_len s
  refine message_p s g d (r + 1) i v (D.plc (D.ns s) (D.msg (D.ns s) r) false v) _ w hs hi h hG (by rw [D.msg, hlen]) (fun q W' hq hR hGW => ?_) (fun q hq => ?_)
  ·refine place_p s g d (r + 1) q v false (D.msg (D.ns s) r) _ W' hs hq hR hGW rfl (fun h => by cases h) (fun _ => ⟨by omega, r, rfl, fun vv q' W'' hq' hR' hG' => ?_, fun vv q' hq' => ⟨?_, fun he => ?_⟩⟩)
   ·have := pmsg_any s hs g r (d + 1) (by omega) vv q' W'' hq' hR' hG'
    rw [show ((d + 1 : Nat) : Int) = (d : Int) + 1 by omega] at this
    exact this
   ·have := D.msg_le (D.ns s) r vv q' (by rw [hlen]; exact hq')
    rwa [hlen] at this
   ·obtain ⟨_, e1, e2⟩ := D.msg_good (D.ns s) r vv q' (by rw [hlen]; exact hq') he
    exact e1
  ·refine ⟨?_, fun he => ?_⟩
   ·have := D.plc_le (l := D.ns s) (m := D.msg (D.ns s) r) (dp := false) (w := v) (fun _ v' q' hq' => D.msg_le (D.ns s) r v' q' hq') (i := q) (by rw [hlen]; exact hq)
    rwa [hlen] at this
   ·obtain ⟨x, e1, _, _, e4, e5⟩ := D.plc_good (l := D.ns s) (m := D.msg (D.ns s) r) (deep := false) (w := v) (P := D.Rt r) (fun _ v' i' hi' => D.msg_good (D.ns s) r v' i' hi') q (by rw [hlen]; exact hq) he
    exact e4
theorem bel_dn {B : Nat} {w w' : World} (h : Below B w w') (n : Nat) : Below B w (w'.drewN n) := h.trans ⟨rfl, rfl, rfl, Nat.le_refl _, fun _ _ => rfl⟩
structure Gv (w : World) : Prop where
 e : Env w
 k : Knd w
theorem Gv.on {w w' : World} (h : Gv w) (b : Below w.heap.size w w') : Gv w' := ⟨h.e.on b, h.k.on b⟩
theorem Gv.lt {w : World} (h : Gv w) : 2 < w.heap.size ∧ 0 < w.heap.size := ⟨World.block_lt_of_cell? w _ h.e.c0, World.block_lt_of_cell? w _ h.k.c0⟩
def Ptq (o : D.Ot) (w : World) (x : Ending) (w' : World) : Prop :=
 Below w.heap.size w w' ∧ ∃ (A : Option Addr) (n c : Nat), x = .returned (.tuple #[.slice A n c, .int .i64 (o.a : Nat), .int .i64 (o.e : Nat)]) ∧ Pm (fun b => w.heap.size <= b) w' 3 (.slice A n c) o.l
set_option maxHeartbeats 4000000 in
theorem parse_any (s : ByteArray) (w : World) (hG : Gv w) (hm : s.size <= 1000) : Calls Tryz.prog 4 #[.string s] w (Ptq (D.rdM (D.ns s)) w) := by
 have hlen := D.ns_len s
 by_cases hs : s.size <= 60
 ·have hgt := hG.lt
  have cM : Hid (Calls Tryz.prog 11 #[vr w.heap.size, .agg #[.int .i64 0, .bool false]] (w.alloc (.cells #[.string s, .int .i64 0, .int .i64 0] 45)) (Mq s w.heap.size 3 (D.msg (D.ns s) 3 false 0) (w.alloc (.cells #[.string s, .int .i64 0, .int .i64 0] 45)))) := Lib.hid (pmsg_any s hs w.heap.size 3 0 (by omega) false 0 (w.alloc (.cells #[.string s, .int .i64 0, .int .i64 0] 45)) (Nat.zero_le _) (blk_new_ rfl) ⟨(hG.on (below_alloc_ _ _)).e, (hG.on (below_alloc_ _ _)).k, by omega, by omega⟩)
  have cF := Lib.hid (fun a e W (hW : Rdr W w.heap.size s a e) => fail_any s w.heap.size a e a 3 W hW 3 rfl)
  have hle := D.msg_le (D.ns s) 3 false 0 (Nat.zero_le _)
  have hI : ¬ (60 : Int) < s.size := by omega
  have hI' : (s.size : Int) <= 60 := by omega
  obtain ⟨O, hO⟩ : ∃ O, D.rdM (D.ns s) = O := ⟨_, rfl⟩
  rw [hO]
  unfold D.rdM at hO
  rw [if_neg (by omega)] at hO
  dsimp only at hO
  rw [hlen] at hO hle
  obtain ⟨o, ho⟩ : ∃ o, D.msg (D.ns s) 3 false 0 = o := ⟨_, rfl⟩
  rw [ho] at cM hle hO
  clear ho hlen hG hgt
  by_cases hlt : o.a < s.size
  ·have iL : (o.a : Int) < s.size := by omega
   by_cases he : o.e = 0
   ·rw [if_neg (by simpa using he), if_pos hlt] at hO
    have HO := Kept.mk hO
    have HE := Lib.hid he
    clear hO he
    go_enter Tryz.func4, Tryz.ntmps4
    go_wp2_with (first
     | (go_at_call 11; (with_reducible refine cM.out.mono ?_); rintro x w1 ⟨A, n, c, rfl, r1_, f1_, p1_⟩
        have R1 := Lib.hid r1_
        have F1 := Lib.hid f1_
        have c1 := r1_.c1
        have l1 := r1_.lt
        clear r1_ f1_ p1_)
     | (go_at_call 12; (with_reducible refine (cF.out _ _ _ R1.out).mono ?_); rintro x w2 ⟨rfl, r2_, f2_⟩
        have r2 : Rdr w2 w.heap.size s o.a 3 := by have := r2_; rw [HE.out] at this; exact this
        have F2 := Lib.hid f2_
        have d1 := r2.c1
        have d2 := r2.c2
        have d3 := r2.lt
        clear r2_ f2_ r2))
    go_quiet (fail)
    go_wp2_with fail
    refine bodyPost_ret (v := .tuple #[.slice none 0 0, .int .i64 (o.a : Nat), .int .i64 3]) (by simp [results, Tryz.results4, go_sem]) rfl ?_
    have hb := ((Fr.refl (· = w.heap.size) w).alloc (.cells #[.string s, .int .i64 0, .int .i64 0] 45)).step (F1.out.step F2.out)
    exact ⟨bel_dn (hb.below (Nat.le_refl _) (fun i hi e => by omega)) _, none, 0, 0, by rw [<- HO.out]; rfl, by rw [<- HO.out]; exact Pm.nil _ _ _ _ _⟩
   ·rw [if_pos he] at hO
    have HO := Kept.mk hO
    have HE := Lib.hid he
    have iE : ((o.e : Int) != 0) = true := by simp; exact he
    clear hO he
    go_enter Tryz.func4, Tryz.ntmps4
    go_wp2_with (first
     | (go_at_call 11; (with_reducible refine cM.out.mono ?_); rintro x w1 ⟨A, n, c, rfl, r1_, f1_, p1_⟩
        have R1 := Lib.hid r1_
        have F1 := Lib.hid f1_
        have c1 := r1_.c1
        have l1 := r1_.lt
        clear r1_ f1_ p1_)
     | (go_at_call 12; (with_reducible refine (cF.out _ _ _ R1.out).mono ?_); rintro x w2 ⟨rfl, r2_, f2_⟩
        have r2 : Rdr w2 w.heap.size s o.a o.e := by have := r2_; unfold D.fl at this; rw [if_neg HE.out] at this; exact this
        have F2 := Lib.hid f2_
        have d1 := r2.c1
        have d2 := r2.c2
        have d3 := r2.lt
        clear r2_ f2_ r2))
    go_quiet (fail)
    go_wp2_with fail
    refine bodyPost_ret (v := .tuple #[.slice none 0 0, .int .i64 (o.a : Nat), .int .i64 (o.e : Nat)]) (by simp [results, Tryz.results4, go_sem]) rfl ?_
    have hb := ((Fr.refl (· = w.heap.size) w).alloc (.cells #[.string s, .int .i64 0, .int .i64 0] 45)).step (F1.out.step F2.out)
    exact ⟨bel_dn (hb.below (Nat.le_refl _) (fun i hi e => by omega)) _, none, 0, 0, by rw [<- HO.out]; rfl, by rw [<- HO.out]; exact Pm.nil _ _ _ _ _⟩
  ·have iL : ¬ (o.a : Int) < s.size := by omega
   have iL' : (s.size : Int) <= o.a := by omega
   by_cases he : o.e = 0
   ·rw [if_neg (by simpa using he), if_neg hlt] at hO
    have HO := Kept.mk hO
    have HE := Lib.hid he
    have iE : ((o.e : Int) != 0) = false := by simp; exact he
    clear hO he
    go_enter Tryz.func4, Tryz.ntmps4
    go_wp2_with (go_at_call 11; (with_reducible refine cM.out.mono ?_); rintro x w1 ⟨A, n, c, rfl, r1_, f1_, p1_⟩; have F1 := Lib.hid f1_; have P1 := Lib.hid p1_; have c1 := r1_.c1; have c2 := r1_.c2; have l1 := r1_.lt; clear r1_ f1_ p1_)
    refine bodyPost_ret (v := .tuple #[.slice A n c, .int .i64 0, .int .i64 0]) (by simp [results, Tryz.results4, go_sem]) rfl ?_
    have hb := ((Fr.refl (· = w.heap.size) w).alloc (.cells #[.string s, .int .i64 0, .int .i64 0] 45)).step F1.out
    exact ⟨(hb.below (Nat.le_refl _) (fun i hi e => by omega)), A, n, c, by rw [<- HO.out]; rfl, by rw [<- HO.out]; exact (P1.out HE.out).weaken fun b _ hb => by have hb' : _ <= b := hb; simp at hb'; omega⟩
   ·rw [if_pos he] at hO
    have HO := Kept.mk hO
    have iE : ((o.e : Int) != 0) = true := by simp; exact he
    clear hO he
    go_enter Tryz.func4, Tryz.ntmps4
    go_wp2_with (go_at_call 11; (with_reducible refine cM.out.mono ?_); rintro x w1 ⟨A, n, c, rfl, r1_, f1_, p1_⟩; have F1 := Lib.hid f1_; have c1 := r1_.c1; have c2 := r1_.c2; have l1 := r1_.lt; clear r1_ f1_ p1_)
    go_quiet (fail)
    go_wp2_with fail
    refine bodyPost_ret (v := .tuple #[.slice none 0 0, .int .i64 (o.a : Nat), .int .i64 (o.e : Nat)]) (by simp [results, Tryz.results4, go_sem]) rfl ?_
    have hb := ((Fr.refl (· = w.heap.size) w).alloc (.cells #[.string s, .int .i64 0, .int .i64 0] 45)).step F1.out
    exact ⟨bel_dn (hb.below (Nat.le_refl _) (fun i hi e => by omega)) _, none, 0, 0, by rw [<- HO.out]; rfl, by rw [<- HO.out]; exact Pm.nil _ _ _ _ _⟩
 ·have hI : (60 : Int) < s.size := by omega
  have hO : D.rdM (D.ns s) = D.er_ 0 2 := by unfold D.rdM; rw [if_pos (by omega)]
  rw [hO]
  clear hO hG
  go_enter Tryz.func4, Tryz.ntmps4
  go_wp2
  refine bodyPost_ret (v := .tuple #[.slice none 0 0, .int .i64 0, .int .i64 2]) (by simp [results, Tryz.results4, go_sem]) rfl ?_
  exact ⟨Below.refl _ _, none, 0, 0, rfl, Pm.nil _ _ _ _ _⟩

theorem ns_at_lt {s : ByteArray} {k : Nat} (h : k < s.size) : ∃ b, (D.ns s)[k]? = some b ∧ b ∈ D.ns s := by
 have hl : k < (D.ns s).length := by rw [D.ns_len]; exact h
 exact ⟨_, List.getElem?_eq_getElem hl, List.getElem_mem hl⟩
theorem tellText_yes (s : ByteArray) (d : Nat) (v : Bool) (w : World) (hs : s.size <= 1000) (h0 : D.ns s ≠ []) (hp : ∀ c ∈ D.ns s, D.plB v c = true) :
  Calls Tryz.prog 87 #[.agg #[.int .i64 (d : Nat), .bool v], .string s] w fun e w' => e = .returned (.bool true) ∧ Below w.heap.size w w' := by
 have h256 := ns_lt s
 have H := Lib.hid (fun x W (hx : x < 256) => textByte_any d v x hx W)
 have tt := txt_eq s ⟨#[]⟩
 rw [show D.ns ⟨#[]⟩ = [] from rfl, decide_eq_false h0] at tt
 have tl : (⟨#[]⟩ : ByteArray).toList = [] := by rw [ByteArray.toList_eq]
 rw [tl] at tt
 have HP := Lib.hid hp
 have H2 := Lib.hid h256
 have hcv := fun W => run_bytes_of_string (P := Tryz.prog) W 9 90 5 s Tryz.underlying9 Tryz.underlying90 Tryz.underlying5
 clear h256 hp h0 tl
 go_enter Tryz.func87, Tryz.ntmps87
 go_wp2_with fail
 clear hcv
 go_loopw [10] (fun i wr => ∃ k : Nat, k <= s.size ∧ i = .int .i64 k ∧ Hid (Blk wr w.heap.size 48 #[.int .i64 (d : Nat), .bool v]) ∧ Hid (Row wr (some ⟨w.heap.size + 1, 0, none⟩) s.size (bys (D.ns s))) ∧ Hid (Below w.heap.size w wr)) (fun i _ => s.size - (intOf i).toNat)
 case atStart =>
  refine ⟨0, Nat.zero_le _, rfl, Lib.hid ((((Blk.new w _ _)).drew).alloc _), Lib.hid ?_, Lib.hid ((((Below.refl _ _).alloc (Nat.le_refl _) _).drew).alloc (by simp) _)⟩
  have := Nm.row_of_text (w.alloc (.cells #[.int .i64 (d : Nat), .bool v] 48)).drew s
  simp only [World.size_drew, World.size_alloc] at this
  exact this _ _ _
 case round =>
  obtain ⟨k, hk, rfl, HB, HR, HZ⟩ := hrel
  obtain ⟨wo, rfl⟩ : ∃ wo : World, wo = wr := ⟨_, rfl⟩
  have c0 := HB.out.c_ 0
  have c1 := HB.out.c_ 1
  have c2 := HB.out.lt
  by_cases hlt : k < s.size
  ·obtain ⟨b, hb, hbm⟩ := ns_at_lt hlt
   have hm := HP.out b hbm
   have HM := Lib.hid (fun W => H.out b W (H2.out b hbm))
   rw [hm] at HM
   obtain ⟨ad, e, cx⟩ := HR.out.cell (bys_at hb)
   injection e with e
   subst e
   simp only [Addr.add_lit, Nat.zero_add] at cx
   have i1 : (k : Int) < (s.size : Int) := by omega
   clear hb hm hbm
   go_wp2_with (go_at_call 25; (with_reducible refine (HM.out _).mono ?_); rintro e w1 ⟨rfl, b1⟩; have B1 := Lib.hid b1; clear b1)
   go_roundw
   case rel => exact ⟨k + 1, by omega, by go_num, Lib.hid (HB.out.on B1.out), Lib.hid (HR.out.on B1.out), Lib.hid (HZ.out.trans (B1.out.mono HZ.out.size))⟩
   case measure => simp [intOf]; omega
  ·obtain rfl : k = s.size := by omega
   go_wp2
   go_ret
   exact ⟨rfl, HZ.out⟩
end Go.Proofs.YtgnjjlgmlokhmaaGreatDoor
namespace Go.Proofs.YtgnjjlgmlokhmaaGreatDoor
open Go.RowKit
open Go.Maps (Keyed)

structure Ks (α : Type) where
 K : TypeId
 v : α -> Value
 kl : α -> Lit
 ok : α -> Prop
 is_ : ∀ x, ok x -> keyOf Tryz.prog K (v x) = some (kl x)
 inj : ∀ {x y}, kl x = kl y -> x = y
 law : Maps.Keyed Tryz.prog K
theorem Ks.key {α : Type} (S : Ks α) (x : α) (h : S.ok x) : WideAt.IsKeyLit (S.kl x) := S.law.key (S.is_ x h)
structure SetAt {α : Type} [DecidableEq α] (S : Ks α) (w : World) (b : Nat) (L : List α) : Prop where
 out : ∃ D : DataW Unit, w.ownsMap Tryz.prog S.K unitElem b L.length D ∧ (∀ x, S.ok x -> Maps.has D (S.kl x) = decide (x ∈ L)) ∧ Maps.size D = L.length
section
variable {α : Type} [DecidableEq α] {S : Ks α} {w w' : World} {b n : Nat} {L : List α} {T : TypeId}
theorem own_tight_ {K : TypeId} {D0 : DataW Unit} (h : w.ownsMap Tryz.prog K unitElem b n D0) : w.ownsMap Tryz.prog K unitElem b (Maps.size D0) D0 := by
 obtain ⟨es, clock, hb, F, hs, hD⟩ := h
 exact ⟨es, clock, hb, F, by rw [hD]; simp [Maps.size, length_sorted], hD⟩
theorem SetAt.lt (h : SetAt S w b L) : b < w.heap.size := by
 obtain ⟨D, ho, _⟩ := h.out
 exact ho.lt
theorem SetAt.tow (h : SetAt S w b L) (hs : w'.heap[b]? = w.heap[b]?) : SetAt S w' b L := by
 obtain ⟨D, ⟨es, clock, hb, r⟩, r'⟩ := h.out
 exact ⟨D, ⟨es, clock, hs.trans hb, r⟩, r'⟩
theorem SetAt.on (h : SetAt S w b L) (hb : Below w.heap.size w w') : SetAt S w' b L := h.tow (hb.block _ h.lt)
theorem SetAt.fr {F : Nat -> Prop} (h : SetAt S w b L) (k : Fr F w w') (hn : ¬ F b) : SetAt S w' b L := h.tow (k.same b h.lt hn)
theorem SetAt.alloc (h : SetAt S w b L) (o : Obj) : SetAt S (w.alloc o) b L := h.on (below_alloc_ _ _)
theorem set_new (S : Ks α) (w : World) (g : Nat) (hg : g = w.heap.size) : SetAt S (w.alloc (.map #[] 0)) g [] := by
 subst hg
 exact ⟨_, World.ownsMap_made _ _ _ _, fun x _ => rfl, rfl⟩
theorem SetAt.len {E : TypeId} (h : SetAt S w b L) (hT : Tryz.prog.underlying T = some (.map S.K E)) (ty : TypeId) : (Builtin.len_ #[T] ty #[.map (some b)]).run Tryz.prog w = .ok (.int .i64 (L.length : Nat)) w := by
 obtain ⟨D, ho, _, hs⟩ := h.out
 rw [ho.len hT ty, hs]
theorem SetAt.look {E : TypeId} (h : SetAt S w b L) (hT : Tryz.prog.underlying T = some (.map S.K E)) (hz : ∀ w : World, (zeroValue E).run Tryz.prog w = .ok (.agg #[]) w) (x : α) (hx : S.ok x) : (Instr.lookup T (.map (some b)) (S.v x) true).run Tryz.prog w = .ok (.tuple #[.agg #[], .bool (decide (x ∈ L))]) w := by
 obtain ⟨D, ho, hh, _⟩ := h.out
 obtain ⟨v, ps, hr, hv⟩ := ho.look_ok S.law hT (z := .agg #[]) (hz w) unitElem_mk (S.is_ x hx)
 obtain ⟨rfl, _⟩ := unitElem_inv hv
 rw [hr, hh x hx]
theorem SetAt.look_in {E : TypeId} (h : SetAt S w b L) (hT : Tryz.prog.underlying T = some (.map S.K E)) (hz : ∀ w : World, (zeroValue E).run Tryz.prog w = .ok (.agg #[]) w) {x : α} (hx : S.ok x) (hm : x ∈ L) : (Instr.lookup T (.map (some b)) (S.v x) true).run Tryz.prog w = .ok (.tuple #[.agg #[], .bool true]) w := by
 rw [h.look hT hz x hx, decide_eq_true hm]
theorem SetAt.put {E : TypeId} (h : SetAt S w b L) (hT : Tryz.prog.underlying T = some (.map S.K E)) (hL : L.length <= 100000) (x : α) (hx : S.ok x) (L' : List α) (hm : ∀ y, y ∈ L' ↔ y = x ∨ y ∈ L) (hl : L'.length = if x ∈ L then L.length else L.length + 1) :
  ∃ w', (Instr.mapUpdate T (.map (some b)) (S.v x) (.agg #[])).run Tryz.prog w = .ok () w' ∧ SetAt S w' b L' ∧ w.grownBy w' (some b) := by
 obtain ⟨D, ho, hh, hs⟩ := h.out
 obtain ⟨w', hr, ho', hg⟩ := ho.update S.law hT (by simp only [maxLen]; omega) (S.is_ x hx) (unitElem_mk (H := Unit))
 have hs' : Maps.size (D.put (S.kl x) (.agg [])) = L'.length := by
  rw [Maps.size_put (ho.tidy S.law), hh x hx, hs, hl]
  simp
 refine ⟨w', hr, ⟨_, by rw [<- hs']; exact own_tight_ ho', fun y hy => ?_, hs'⟩, hg⟩
 by_cases e : y = x
 ·subst e
  rw [Maps.has_put_same ho.isMap (S.key y hy)]
  have := (hm y).2 (.inl rfl)
  simp [this]
 ·rw [Maps.has_put_other (fun e' => e (S.inj e')), hh y hy, decide_eq_decide, hm y]
  simp [e]
end
def sS : Ks ByteArray where
 K := 9
 v s := .string s
 kl s := .string s.data.toList
 ok s := s.size <= 100000
 is_ s h := by
  unfold keyOf
  rw [Tryz.underlying9]
  simp [mapKey, Tryz.underlying9]
  simp only [maxLen]; omega
 inj {x y} h := by
  injection h with h
  exact ByteArray.ext (Array.ext' h)
 law := Maps.string_keyed Tryz.underlying9
theorem map_set_str : Tryz.prog.underlying 170 = some (.map sS.K 72) := Tryz.underlying170
theorem zero_unit (w : World) : (zeroValue 72).run Tryz.prog w = .ok (.agg #[]) w := by rw [Tryz.zeroValue72]
end Go.Proofs.YtgnjjlgmlokhmaaGreatDoor
