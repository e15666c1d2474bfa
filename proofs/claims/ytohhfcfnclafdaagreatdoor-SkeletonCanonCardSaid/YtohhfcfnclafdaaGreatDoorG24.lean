/-
  The program's reader: the cases of a choice.
  Words for walks with parts kept whole: loads, stores, parts built, rows of one part; a part's name, kind and cases stored.
  The program's reader: a place.
-/
import Derived.Test.YtohhfcfnclafdaaGreatDoorG23
set_option linter.unusedVariables false
set_option linter.unusedSimpArgs false
set_option maxRecDepth 100000
namespace Go.Proofs.YtohhfcfnclafdaaGreatDoor
open Go.RowKit
attribute [local go_sem ↓] Go.wp_at_zero Go.wp_at_succ

theorem case_under : Tryz.prog.underlying 114 = some (.slice 149) := by kernel_rfl
theorem case_info : (Tryz.prog.info? 149).map (fun i => (i.zero, i.size, i.bytes)) = some (some (.agg #[.string ⟨#[]⟩, .slice none 0 0]), 2, 40) := by kernel_rfl
/-- What is left of cases to read. -/
structure Lv (s : ByteArray) (k : Nat) (nm : List Nat) (mm : Nat → D.Ot) (o : D.Ot) (r base : Nat) (w : World) (I : Nat) (A : Option Addr) (n c : Nat) (cs : List (List Nat × Value)) : Prop where
  out : ∃ (f : Nat) (ks : List (List D.Nd)), s.size < I + f ∧ n ≤ I ∧ D.cas (D.ns s) k nm mm f I (cs.map (·.1)) ks = o ∧ D.B8 (cs.map (·.1)) ∧ Kc r (Fo base (Value.slice A n c).ownBlock) w cs ks
/-- The contract of cases. -/
def Cq (s : ByteArray) (g k r : Nat) (nm : List Nat) (o : D.Ot) (w : World) (x : Ending) (w' : World) : Prop :=
  ∃ (A : Option Addr) (n c a e : Nat), x = .returned (.slice A n c) ∧ Rdr w' g s a e ∧ a ≤ s.size ∧ Fr (· = g) w w' ∧ D.tk (D.ns s) 125 a e = (o.a, o.e) ∧
    (o.e = 0 → ∃ (ws : List (List Nat)) (ks : List (List D.Nd)), o.l = [.mk k [] nm ws ks] ∧ Pel (Pk (fun b => w.heap.size ≤ b) w' (r + 1)) (fun b => w.heap.size ≤ b) w' (.mk k [] nm ws ks) ⟨A, n, c⟩)
theorem lv_end {l : List Nat} {k f : Nat} {nm : List Nat} {mm : Nat → D.Ot} {o : D.Ot} {I : Nat} {ws : List (List Nat)} {ks : List (List D.Nd)} (h : D.cas l k nm mm (f + 1) I ws ks = o) (hL : D.far D.wdB l I = I) :
    o = (if l[I]? ≠ some 125 then D.er_ I 3 else if D.othT ∉ ws then D.er_ I 13 else (⟨[.mk k [] nm ws ks], I + 1, 0⟩ : D.Ot)) := by
  rw [D.cas_eq hL, if_pos rfl] at h
  exact h.symm
theorem lv_pel {k : Nat} {nm : List Nat} {r base : Nat} {w : World} {A : Option Addr} {n c : Nat} {cs : List (List Nat × Value)} {ks : List (List D.Nd)} (hb8 : D.B8 (cs.map (·.1))) (hkc : Kc r (Fo base (Value.slice A n c).ownBlock) w cs ks) (hO : Ow 149 2 base w A n c (ccs cs)) (hnm : ∀ x ∈ nm, x < 256) {F : Nat → Prop} (hF : ∀ b, base ≤ b → F b) :
    Pel (Pk F w (r + 1)) F w (.mk k [] nm (cs.map (·.1)) ks) ⟨A, n, c⟩ := by
  obtain ⟨h1, h2, h3⟩ := hkc
  refine ⟨⟨(fun x hx => by cases hx), hnm, hb8⟩, hO.cap.1, cs, (hO.rf fun g hg => hF _ (hO.block_le _ hg)), rfl, h2, h1, fun j t u q hu hq => (h3 j t u q hu hq).weaken fun b _ hb => hF b hb.1⟩
theorem Lv.fr {s : ByteArray} {k : Nat} {nm : List Nat} {mm : Nat → D.Ot} {o : D.Ot} {r base : Nat} {w w' : World} {I : Nat} {A : Option Addr} {n c : Nat} {cs : List (List Nat × Value)} {S : Nat → Prop} (h : Lv s k nm mm o r base w I A n c cs) (f : Fr S w w') (hS : ∀ i, base ≤ i → i < w.heap.size → ¬ S i) : Lv s k nm mm o r base w' I A n c cs := by
  obtain ⟨f', ks, h1, h2, h3, h4, h5⟩ := h.out
  exact ⟨f', ks, h1, h2, h3, h4, h5.fr f fun q hq hF => ⟨hF, hS q hF.1 hq⟩⟩
theorem Fr.keeps_ {S : Nat → Prop} {w w' : World} (h : Fr S w w') {F : Nat → Prop} (hF : ∀ i, F i → i < w.heap.size → ¬ S i) : Keeps F w w' := ⟨h.size, fun b hb hl => h.same b hl (hF b hb hl)⟩
theorem Pel.fr {S : Nat → Prop} {F : Nat → Prop} {r : Nat} {w w' : World} {x : D.Nd} {p : D.Sl} (h : Pel (Pk F w r) F w x p) (k : Fr S w w') (hS : ∀ i, F i → i < w.heap.size → ¬ S i) : Pel (Pk F w' r) F w' x p :=
  ((h.weaken (F' := fun i => F i ∧ i < w.heap.size) (fun b hb hF => ⟨hF, hb⟩)).keep (F := fun i => F i ∧ i < w.heap.size) (k.keeps_ fun i hF _ => hS i hF.1 hF.2)).weaken fun b _ hF => hF.1
theorem rw_case (w : World) (g : Nat) (hg : g = w.heap.size) (t : List Nat) (v : Value) : Rw 2 (w.alloc (.cells #[.string (D.sb t), v] 149)) (some ⟨g, 0, none⟩) 1 (ccs [(t, v)]) := by
  subst hg
  exact rw_new w 2 149 1 #[.string (D.sb t), v] rfl
set_option maxHeartbeats 8000000 in
theorem cases_any (s : ByteArray) (g i k d r : Nat) (v : Bool) (nm : List Nat) (mm : Nat → D.Ot) (o : D.Ot) (w : World) (hs : s.size ≤ 60) (hd : d < 3) (hk : k = 3 ∨ k = 4) (hi : i ≤ s.size) (h : Rdr w g s i 0) (hG : Glb w g) (hnm : ∀ x ∈ nm, x < 256)
    (hm : ∀ q W', q ≤ s.size → Rdr W' g s q 0 → Glb W' g → Calls Tryz.prog 38 #[vr g, .agg #[.int .i64 ((d : Int) + 1), .bool (v || k == 3)]] W' (Mq s g r (mm q) W'))
    (hg : ∀ q, q ≤ s.size → (mm q).a ≤ s.size ∧ ((mm q).e = 0 → q ≤ (mm q).a)) (ho : D.cas (D.ns s) k nm mm (s.size + 1) i [] [] = o) :
    Calls Tryz.prog 130 #[vr g, .int .i64 (k : Nat), .agg #[.int .i64 (d : Nat), .bool v]] w (Cq s g k r nm o w) := by
  have hlen := D.ns_len s
  have hgl := h.lt
  have h256 := ns_lt s
  have hW : ∀ (I : Nat) (A : Option Addr) (n c : Nat) (cs : List (List Nat × Value)) (W : World), Rdr W g s I 0 → I ≤ s.size → D.far D.wdB (D.ns s) I ≠ I → W.cell? ⟨w.heap.size + 1, 0, none⟩ = some (.int .i64 (k : Nat)) → W.cell? ⟨w.heap.size + 3, 0, none⟩ = some (.slice A n c) → Rw 2 W A n (ccs cs) → D.B8 (cs.map (·.1)) → (∀ x ∈ cs, x.2.oneCell' = true) → n ≤ 1000000 → Glb W g → (∀ ad, A = some ad → ad.block ≠ g) →
      Calls Tryz.prog 168 #[vr g, .func (.func 174) #[] #[vr (w.heap.size + 1), vr (w.heap.size + 3)]] W fun x w' => x = .returned (.string (D.sb (D.sub (D.ns s) I (D.far D.wdB (D.ns s) I)))) ∧ Rdr w' g s (D.p1 k (D.sub (D.ns s) I (D.far D.wdB (D.ns s) I)) (cs.map (·.1)) I (D.far D.wdB (D.ns s) I)).1 (D.p1 k (D.sub (D.ns s) I (D.far D.wdB (D.ns s) I)) (cs.map (·.1)) I (D.far D.wdB (D.ns s) I)).2 ∧ Fr (· = g) W w' := by
    intro I A n c cs W hW hI hne hq hr hR hb h1 hn hGW hA
    exact (word_case s g I (w.heap.size + 1) (w.heap.size + 3) k A n c cs W hW hI (by omega) hq hr hR hb h1 hn hGW.e (by omega) (by omega) hA hGW.ne).mono fun x w' ⟨f, _, q⟩ => ⟨(q hne).1, (q hne).2.1, f⟩
  have HW := Lib.hid hW
  clear hW
  have HB := Lib.hid (fun tc (u : ByteArray) I1 e1 W (hI : I1 ≤ s.size) (hR : Rdr W g s I1 e1) (hB : Bx w.heap.size g k d v W) (hc : Blk W tc 149 #[.string u, .slice none 0 0]) (ht : w.heap.size + 2 < tc) (hGW : Glb W g) => bracedC s g w.heap.size tc d k r v mm u I1 e1 W hs hd hI hR hB hc hgl ht hGW hm (fun q hq => (hg q hq).1) rfl rfl rfl)
  have HG0 := Lib.hid (fun q hq => (hg q hq))
  have HN := Lib.hid (fun a e W (hW : Rdr W g s a e) (ha : a ≤ s.size) => next_any s g a e W hW ha)
  have HD := Lib.hid (fun x W (hx : x < 256) => wordByte_any x hx W)
  have HBL := Lib.hid (fun a e W (hW : Rdr W g s a e) (ha : a ≤ s.size) => blanks_any s g a e W hW ha (by omega))
  have HF13 := Lib.hid (fun a W (hW : Rdr W g s a 0) => fail_any s g a 0 a 13 W hW 13 rfl)
  have HFI := Lib.hid (fun A n c (cs : List (List Nat × Value)) W (hr : Rw 2 W A n (ccs cs)) (hb : D.B8 (cs.map (·.1))) (h1 : ∀ x ∈ cs, x.2.oneCell' = true) (hn : n ≤ 1000000) => cfind_any A n c cs ⟨#[111, 116, 104, 101, 114]⟩ W hr hb h1 hn)
  rw [show D.ns ⟨#[111, 116, 104, 101, 114]⟩ = D.othT from rfl] at HFI
  have H2 := Lib.hid h256
  have HNM := Lib.hid hnm
  have HH := Lib.hid h
  have HG := Lib.hid hG
  have HO := Kept.mk ho
  have HKK := Lib.hid hk
  clear h hG hnm hm hg ho hk h256
  go_enter Tryz.func130, Tryz.ntmps130
  go_wp2_with fail
  go_loopw [] (fun wr => ∃ (I e n c : Nat) (A : Option Addr) (cs : List (List Nat × Value)), I ≤ s.size ∧ Hid (Rdr wr g s I e) ∧ Hid (Bx w.heap.size g k d v wr) ∧ Hid (Blk wr (w.heap.size + 3) 114 #[.slice A n c]) ∧ Hid (Ow 149 2 (w.heap.size + 4) wr A n c (ccs cs)) ∧ Hid (Fr (· = g) w wr) ∧ Kept (e = 0 → Lv s k nm mm o r (w.heap.size + 4) wr I A n c cs) ∧ Kept (e ≠ 0 → o.a = I ∧ o.e = e) ∧ n ≤ 1000) (fun wr => rz s wr g)
  case atStart =>
    refine ⟨i, 0, 0, 0, none, [], hi, Lib.hid (HH.out.on ((((Below.refl _ _).alloc (Nat.le_refl _) _).alloc (by simp) _).alloc (by simp; omega) _ |>.alloc (by simp; omega) _)), Lib.hid ⟨?_, ?_, ?_⟩, Lib.hid (blk_new_ (by simp)), Lib.hid (Ow.nil _ _ (by simp)), Lib.hid (((((Fr.refl _ _).alloc _).alloc _).alloc _).alloc _), ⟨fun _ => ⟨s.size + 1, [], by omega, Nat.zero_le _, HO.out, (fun x hx => by cases hx), rfl, (fun u hu => by cases hu), fun j t u q hu hq => by simp at hu⟩⟩, ⟨fun h => absurd rfl h⟩, by omega⟩
    · exact ((Blk.new w _ _).alloc _).alloc _ |>.alloc _
    · exact ((blk_new_ (by simp)).alloc _).alloc _
    · exact (blk_new_ (by simp)).alloc _
  case round =>
    obtain ⟨I, e, n, c, A, cs, hI, HR, HX, HT, HO1, HF, HL, HE, hn⟩ := hrel
    obtain ⟨wo, rfl⟩ : ∃ wo : World, wo = wr := ⟨_, rfl⟩
    have hsz := HF.out.size
    have hTl := HT.out.lt
    have k0 := HX.out.a0.c_ 0
    have k1 := HX.out.a0.lt
    have hmz := HR.out.rz
    by_cases he : e = 0
    · subst he
      have hlv := HL.out rfl
      have HLV := Kept.mk hlv
      clear HL HE
      have CN := Lib.hid (HN.out I 0 wo HR.out hI)
      have hx256 := D.nb_lt H2.out I 0
      have hends := D.far_ends (p := D.wdB) (l := D.ns s) (I := I) (by rfl)
      have hgoes := D.far_goes (p := D.wdB) (l := D.ns s) (I := I)
      have hnb : D.nb (D.ns s) I 0 = (D.ns s).getD I 0 := D.nb_live
      obtain ⟨x, hx⟩ : ∃ x, D.nb (D.ns s) I 0 = x := ⟨_, rfl⟩
      rw [hx] at CN hx256 hends hgoes hnb
      have CN2 := Lib.hid (fun W (hb : Below wo.heap.size wo W) => (by have := HN.out I 0 W (HR.out.on hb) hI; rwa [hx] at this : Calls Tryz.prog 80 #[vr g] W fun y w' => y = .returned (.int .u8 (x : Nat)) ∧ Below W.heap.size W w'))
      have CD := Lib.hid (fun W => HD.out x W hx256)
      clear hx
      obtain ⟨f0, ks, hf0, hnI, hcas, hb8, hkc⟩ := hlv.out
      obtain ⟨f, rfl⟩ : ∃ f, f0 = f + 1 := ⟨f0 - 1, by omega⟩
      by_cases hLI : D.far D.wdB (D.ns s) I = I
      · have hend := lv_end hcas hLI
        have hpel := lv_pel (k := k) hb8 hkc HO1.out HNM.out (F := fun b => w.heap.size ≤ b) (fun b hb => by omega)
        rw [hends hLI] at CD
        have h1c := hkc.2.1
        have HPEL := Kept.mk hpel
        have CFI := Lib.hid (fun W (hb : Below wo.heap.size wo W) => HFI.out A n c cs W (HO1.out.on hb).to_row hb8 h1c (by omega))
        clear hpel hcas hkc HLV hlv hgoes hends
        by_cases h125 : x = 125
        · have i125 : ((x : Int) == 125) = true := by simp; omega
          have h5 : (D.ns s)[I]? = some 125 := by
            cases hq : (D.ns s)[I]? with
            | none => rw [List.getD, hq] at hnb; have hnb' : x = 0 := hnb; omega
            | some y => rw [List.getD, hq] at hnb; have hnb' : x = y := hnb; rw [← hnb', h125]
          rw [if_neg (by simp [h5])] at hend
          by_cases h3 : D.othT ∈ cs.map (·.1)
          · rw [if_neg (by simp [h3])] at hend
            have i3 : ¬ D.fnd (cs.map (·.1)) D.othT < 0 := by unfold D.fnd; rw [if_pos h3]; omega
            have i4 : (0 : Int) ≤ D.fnd (cs.map (·.1)) D.othT := by omega
            obtain ⟨z, hz⟩ : ∃ z, D.fnd (cs.map (·.1)) D.othT = z := ⟨_, rfl⟩
            rw [hz] at i3 i4 CFI
            have HEND := Kept.mk hend
            have H5 := Lib.hid h5
            clear hend h3 hz hb8 h1c hnb h5 h125
            go_wp2_with (first
              | (go_at_call 80; (with_reducible refine CN.out.mono ?_); rintro y w1 ⟨rfl, b1⟩; have B1 := Lib.hid b1; clear b1)
              | (go_at_call 177; (with_reducible refine (CD.out _).mono ?_); rintro y w2 ⟨rfl, b2⟩; have B2 := Lib.hid (B1.out.trans (b2.mono B1.out.size)); have q0 := (HX.out.on B2.out).a0.c_ 0; have q1 := (HX.out.on B2.out).a0.lt; clear b2)
              | (go_at_call 80; (with_reducible refine (CN2.out _ B2.out).mono ?_); rintro y w3 ⟨rfl, b3⟩; have B3 := Lib.hid (B2.out.trans (b3.mono B2.out.size)); have r0 := (HT.out.on B3.out).c_ 0; have r1 := (HT.out.on B3.out).lt; clear b3)
              | (go_at_call 176; (with_reducible refine (CFI.out _ B3.out).mono ?_); rintro y w4 ⟨rfl, b4⟩; have B4 := Lib.hid (B3.out.trans (b4.mono B3.out.size)); have r0 := (HT.out.on B4.out).c_ 0; have r1 := (HT.out.on B4.out).lt; clear b4))
            go_ret
            have hf := HF.out.step (Fr.of_below B4.out (Nat.le_refl _))
            exact ⟨A, n, c, I, 0, rfl, HR.out.on B4.out, hI, hf, by rw [HEND.out]; exact D.tk_live H5.out, fun _ => ⟨_, ks, by rw [HEND.out], HPEL.out.keep (keeps_below B4.out)⟩⟩
          · rw [if_pos h3] at hend
            have i3 : D.fnd (cs.map (·.1)) D.othT < 0 := by unfold D.fnd; rw [if_neg h3]; omega
            obtain ⟨z, hz⟩ : ∃ z, D.fnd (cs.map (·.1)) D.othT = z := ⟨_, rfl⟩
            rw [hz] at i3 CFI
            have HEND := Kept.mk hend
            clear hend h3 hz hb8 h1c hnb h5 HPEL h125
            go_upto_region 9 with (first
              | (go_at_call 80; (with_reducible refine CN.out.mono ?_); rintro y w1 ⟨rfl, b1⟩; have B1 := Lib.hid b1; clear b1)
              | (go_at_call 177; (with_reducible refine (CD.out _).mono ?_); rintro y w2 ⟨rfl, b2⟩; have B2 := Lib.hid (B1.out.trans (b2.mono B1.out.size)); have q0 := (HX.out.on B2.out).a0.c_ 0; have q1 := (HX.out.on B2.out).a0.lt; clear b2)
              | (go_at_call 80; (with_reducible refine (CN2.out _ B2.out).mono ?_); rintro y w3 ⟨rfl, b3⟩; have B3 := Lib.hid (B2.out.trans (b3.mono B2.out.size)); have r0 := (HT.out.on B3.out).c_ 0; have r1 := (HT.out.on B3.out).lt; clear b3)
              | (go_at_call 176; (with_reducible refine (CFI.out _ B3.out).mono ?_); rintro y w4 ⟨rfl, b4⟩; have B4 := Lib.hid (B3.out.trans (b4.mono B3.out.size)); have r0 := (HT.out.on B4.out).c_ 0; have r1 := (HT.out.on B4.out).lt; clear b4))
            have R4 := Lib.hid (HR.out.on B4.out)
            have X4 := Lib.hid (HX.out.on B4.out)
            have T4 := Lib.hid (HT.out.on B4.out)
            have F4 := Lib.hid (HF.out.step (Fr.of_below (S := (· = g)) B4.out (Nat.le_refl _)))
            clear HR HX HT HF B4 r0 r1
            refine wp_region_noPanic ?_
            refine wp_region_held_drew (S := fun W => Fr (· = g) w4 W ∧ ∃ e', Rdr W g s I e') (by kernel_rfl) ⟨Fr.of_below ((Below.refl _ _).drew) (Nat.le_refl _), 0, R4.out.on ((Below.refl _ _).drew)⟩ (fun _ => ?_)
            obtain ⟨wd, hwd⟩ : ∃ wd, w4.drew = wd := ⟨_, rfl⟩
            have sb : Below w4.heap.size w4 wd := by rw [← hwd]; exact (Below.refl _ _).drew
            have R4d := Lib.hid (R4.out.on sb)
            have sd : Fr (· = g) w4 wd ∧ ∃ e', Rdr wd g s I e' := ⟨Fr.of_below sb (Nat.le_refl _), 0, R4d.out⟩
            rw [hwd]
            clear hwd
            refine takeS 0 (some 35) ?vf0 (by kernel_rfl) (by kernel_rfl) (by kernel_rfl) (by kernel_rfl) (fun _ _ _ h => h) (by rfl) ?hyf0 sd ?restf0
            case hyf0 => (intro o ho W hW; simp only [List.getElem?_toArray, List.getElem?_cons_succ, List.getElem?_cons_zero, Option.some.injEq] at ho; subst ho; (try dsimp only at hW); have q0 := (X4.out.fr hW.1 (fun i h1 h2 => by omega)).a0.c_ 0; have q1 := (X4.out.fr hW.1 (fun i h1 h2 => by omega)).a0.lt; go_simp; try rfl)
            try simp only [Act.put, List.setIfInBounds_toArray, List.set_cons_zero, List.set_cons_succ]
            refine takeS 1 (some 36) ?vf1 (by kernel_rfl) (by kernel_rfl) (by kernel_rfl) (by kernel_rfl) (fun _ _ _ h => h) (by rfl) ?hyf1 sd ?restf1
            case hyf1 => (intro o ho W hW; simp only [List.getElem?_toArray, List.getElem?_cons_succ, List.getElem?_cons_zero, Option.some.injEq] at ho; subst ho; (try dsimp only at hW); have q0 := (X4.out.fr hW.1 (fun i h1 h2 => by omega)).a0.c_ 0; have q1 := (X4.out.fr hW.1 (fun i h1 h2 => by omega)).a0.lt; go_simp; try rfl)
            try simp only [Act.put, List.setIfInBounds_toArray, List.set_cons_zero, List.set_cons_succ]
            refine takeS 2 (some 37) ?vf2 (by kernel_rfl) (by kernel_rfl) (by kernel_rfl) (by kernel_rfl) (fun _ _ _ h => h) (by rfl) ?hyf2 sd ?restf2
            case hyf2 => (intro o ho W hW; simp only [List.getElem?_toArray, List.getElem?_cons_succ, List.getElem?_cons_zero, Option.some.injEq] at ho; subst ho; (try dsimp only at hW); obtain ⟨e', hr⟩ := hW.2; have q0 := hr.lt; go_simp; try rfl)
            try simp only [Act.put, List.setIfInBounds_toArray, List.set_cons_zero, List.set_cons_succ]
            refine takeS 3 (some 38) ?vf3 (by kernel_rfl) (by kernel_rfl) (by kernel_rfl) (by kernel_rfl) (fun _ _ _ h => h) (by rfl) ?hyf3 sd ?restf3
            case hyf3 => (intro o ho W hW; simp only [List.getElem?_toArray, List.getElem?_cons_succ, List.getElem?_cons_zero, Option.some.injEq] at ho; subst ho; (try dsimp only at hW); skip; go_simp; try rfl)
            try simp only [Act.put, List.setIfInBounds_toArray, List.set_cons_zero, List.set_cons_succ]
            refine takeS 4 (some 39) ?vf4 (by kernel_rfl) (by kernel_rfl) (by kernel_rfl) (by kernel_rfl) (fun _ _ _ h => h) (by rfl) ?hyf4 sd ?restf4
            case hyf4 => (intro o ho W hW; simp only [List.getElem?_toArray, List.getElem?_cons_succ, List.getElem?_cons_zero, Option.some.injEq] at ho; subst ho; (try dsimp only at hW); obtain ⟨e', hr⟩ := hW.2; have q0 := hr.c1; have q1 := hr.lt; go_simp; try rfl)
            try simp only [Act.put, List.setIfInBounds_toArray, List.set_cons_zero, List.set_cons_succ]
            refine nextS 5 (by kernel_rfl) (by rfl) (fun o ho K hK => ?_)
            simp only [List.getElem?_toArray, List.getElem?_cons_succ, List.getElem?_cons_zero, Option.some.injEq] at ho; subst ho
            go_simp
            (go_at_call 39; (with_reducible refine (HF13.out I _ R4d.out).mono ?_); rintro y w5 ⟨rfl, r5_, f5_⟩)
            have r5 : Rdr w5 g s I 13 := r5_
            have s5 : Fr (· = g) w4 w5 ∧ ∃ e', Rdr w5 g s I e' := ⟨sd.1.step f5_, 13, r5⟩
            refine hK.out _ _ s5 (fun _ => ?_)
            clear hK K
            try simp only [Act.put, List.setIfInBounds_toArray, List.set_cons_zero, List.set_cons_succ]
            refine wpAnyH_done (by kernel_rfl) ?_ _
            refine NoPanic.normal ?_
            have HR5 := Lib.hid r5
            have F5 := Lib.hid s5.1
            have t5 := s5.1.blk T4.out (by omega)
            have u0 := t5.c_ 0
            have u1 := t5.lt
            clear r5 r5_ f5_ s5 t5
            go_wp2_with fail
            go_ret
            exact ⟨A, n, c, I, 13, rfl, HR5.out, hI, F4.out.step F5.out, by rw [HEND.out]; exact D.tk_dead (by decide) (by decide), fun h0 => absurd ((congrArg D.Ot.e HEND.out).symm.trans h0) (Nat.succ_ne_zero _)⟩
        · have h5 : (D.ns s)[I]? ≠ some 125 := fun hq => h125 (by rw [hnb, List.getD, hq]; rfl)
          rw [if_pos h5] at hend
          have i125 : ((x : Int) == 125) = false := by simp; omega
          have HEND := Kept.mk hend
          have H5 := Lib.hid h5
          clear hend hb8 h1c hnb h5 HPEL h125
          go_wp2_with (first
              | (go_at_call 80; (with_reducible refine CN.out.mono ?_); rintro y w1 ⟨rfl, b1⟩; have B1 := Lib.hid b1; clear b1)
              | (go_at_call 177; (with_reducible refine (CD.out _).mono ?_); rintro y w2 ⟨rfl, b2⟩; have B2 := Lib.hid (B1.out.trans (b2.mono B1.out.size)); have q0 := (HX.out.on B2.out).a0.c_ 0; have q1 := (HX.out.on B2.out).a0.lt; clear b2)
              | (go_at_call 80; (with_reducible refine (CN2.out _ B2.out).mono ?_); rintro y w3 ⟨rfl, b3⟩; have B3 := Lib.hid (B2.out.trans (b3.mono B2.out.size)); have r0 := (HT.out.on B3.out).c_ 0; have r1 := (HT.out.on B3.out).lt; clear b3))
          go_ret
          have hf := HF.out.step (Fr.of_below B3.out (Nat.le_refl _))
          exact ⟨A, n, c, I, 0, rfl, HR.out.on B3.out, hI, hf, by rw [HEND.out]; exact D.tk_not (by decide) H5.out, fun h0 => absurd ((congrArg D.Ot.e HEND.out).symm.trans h0) (Nat.succ_ne_zero _)⟩
      · rw [hgoes hLI] at CD
        have CW := Lib.hid (fun W (hb : Below wo.heap.size wo W) => HW.out I A n c cs W (HR.out.on hb) hI hLI ((HX.out.a1.on hb).c_ 0) ((HT.out.on hb).c_ 0) (HO1.out.on hb).to_row hb8 hkc.2.1 (by omega) (HG.out.fr (HF.out.step (Fr.of_below hb (Nat.le_refl _)))) (fun ad e => by have := (HO1.out.lt ad.block (by rw [e]; rfl)).1; omega))
        obtain ⟨L, hL⟩ : ∃ L, D.far D.wdB (D.ns s) I = L := ⟨_, rfl⟩
        have hLs : L ≤ s.size := by rw [← hL, ← hlen]; exact D.far_le (by rw [hlen]; exact hI)
        have hLI' : I < L := by have := D.far_ge D.wdB (D.ns s) I; omega
        have hgo := D.cas_go hL (by omega) HKK.out hcas rfl rfl rfl
        rw [hL] at CW
        obtain ⟨t, ht⟩ : ∃ t, D.sub (D.ns s) I L = t := ⟨_, rfl⟩
        have ht8 : ∀ b ∈ t, b < 256 := by rw [← ht]; exact sub_lt H2.out I L
        rw [ht] at CW hgo
        have hp1 : (D.p1 k t (cs.map (·.1)) I L).1 ≤ s.size := by unfold D.p1; dsimp only; split <;> omega
        obtain ⟨p1, hp1e⟩ : ∃ p1, D.p1 k t (cs.map (·.1)) I L = p1 := ⟨_, rfl⟩
        rw [hp1e] at CW hgo hp1
        have CB := Lib.hid (fun tc W (hR : Rdr W g s p1.1 p1.2) (hB : Bx w.heap.size g k d v W) (hc : Blk W tc 149 #[.string (D.sb t), .slice none 0 0]) (ht : w.heap.size + 2 < tc) (hGW : Glb W g) => HB.out tc (D.sb t) p1.1 p1.2 W hp1 hR hB hc ht hGW)
        obtain ⟨p2, hp2⟩ : ∃ p2, D.tk (D.ns s) 123 p1.1 p1.2 = p2 := ⟨_, rfl⟩
        rw [hp2] at hgo CB
        have hp2l : p2.1 ≤ s.size := by rw [← hp2, ← hlen]; exact D.tk_le (by decide) (by rw [hlen]; exact hp1)
        obtain ⟨o2, ho2⟩ : ∃ o2, D.o2 mm p2 = o2 := ⟨_, rfl⟩
        rw [ho2] at hgo CB
        have ho2l : o2.a ≤ s.size := by
          rw [← ho2]; unfold D.o2
          split
          · exact (HG0.out _ hp2l).1
          · exact hp2l
        obtain ⟨p3, hp3⟩ : ∃ p3, D.tk (D.ns s) 125 o2.a o2.e = p3 := ⟨_, rfl⟩
        rw [hp3] at hgo CB
        have hp3l : p3.1 ≤ s.size := by rw [← hp3, ← hlen]; exact D.tk_le (by decide) (by rw [hlen]; exact ho2l)
        have CBL := Lib.hid (fun W (hR : Rdr W g s p3.1 p3.2) => HBL.out p3.1 p3.2 W hR hp3l)
        have HGO := Kept.mk hgo
        have HKC := Kept.mk hkc
        have HB8 := Kept.mk hb8
        have HT8 := Lib.hid ht8
        have HPL := Lib.hid hLI'
        clear hgo hkc hb8 ht8 hcas hp1e hp2 ho2 hp3 ht hL HW HB HN HD HBL HF13 HFI CN2 hnb hlv HLV hends hgoes hLI
        go_wp2_with (first
          | (go_at_call 80; (with_reducible refine CN.out.mono ?_); rintro y w1 ⟨rfl, b1⟩; have B1 := Lib.hid b1; clear b1)
          | (go_at_call 177; (with_reducible refine (CD.out _).mono ?_); rintro y w2 ⟨rfl, b2⟩; have B2 := Lib.hid (B1.out.trans (b2.mono B1.out.size)); have q0 := (HX.out.on B2.out).a0.c_ 0; have q1 := (HX.out.on B2.out).a0.lt; clear b2)
          | (go_at_call 168; (with_reducible refine (CW.out _ B2.out).mono ?_); rintro y w3 ⟨rfl, r3_, f3_⟩
             have F3 := Lib.hid ((Fr.of_below (S := (· = g)) B2.out (Nat.le_refl _)).step f3_)
             have hs3 := F3.out.size
             have X3 := Lib.hid ((HX.out.fr F3.out (fun i h1 h2 => by omega)).on (below_alloc_ w3 (.cells #[.string (D.sb t), .slice none 0 0] 149)))
             have R3 := Lib.hid (r3_.on (below_alloc_ w3 (.cells #[.string (D.sb t), .slice none 0 0] 149)))
             have G3 := Lib.hid ((HG.out.fr (HF.out.step F3.out)).fr ((Fr.refl _ _).alloc (.cells #[.string (D.sb t), .slice none 0 0] 149)))
             have x0 := X3.out.a0.c_ 0
             have x1 := X3.out.a0.lt
             clear r3_ f3_)
          | (go_at_call 124; (with_reducible refine (CB.out w3.heap.size _ R3.out X3.out (Blk.new w3 _ _) (by omega) G3.out).mono ?_); rintro y w4 ⟨A4, n4, c4, rfl, r4_, b4_, f4_, p4_⟩
             have F4 := Lib.hid f4_
             have R4 := Lib.hid r4_
             have P4 := Lib.hid p4_
             have FT := Lib.hid (((F3.out.mono (S' := fun i => i = g ∨ i = w3.heap.size) (fun i _ e => Or.inl e)).alloc (.cells #[.string (D.sb t), .slice none 0 0] 149)).step f4_)
             have T4 := Lib.hid (FT.out.blk HT.out (by omega))
             have X4 := Lib.hid (HX.out.fr FT.out (fun i h1 h2 => by omega))
             have O4 := Lib.hid (HO1.out.fr FT.out (fun i h1 h2 => by omega))
             have y0 := T4.out.c_ 0
             have y1 := T4.out.lt
             have y2 := b4_.c_ 0
             have y3 := b4_.c_ 1
             have y4 := b4_.lt
             clear b4_ r4_ f4_ p4_)
          | (at_builtin; refine gapp _ case_under case_info rfl (by decide) (by decide) rfl (.tmp 21) (.tmp 23) rfl rfl (O4.out.alloc _) rfl (rw_case w4 _ rfl t (.slice A4 n4 c4)) (fun u h => by simp [ccs] at h; rcases h with rfl | rfl <;> rfl) (by omega) ?_; intro A5 c5 w5 h5 hg5 hor5
             have fa := ((Fr.refl (fun i => (Value.slice A n c).ownBlock = some i) w4).alloc (.cells #[.string (D.sb t), .slice A4 n4 c4] 149)).step (fr_own hg5)
             have OL := Lib.hid O4.out.lt
             have T5 := Lib.hid (fa.blk T4.out (fun e => by have := (O4.out.lt _ e).1; omega))
             have z0 := T5.out.c_ 0
             have z1 := T5.out.f_
             have z2 := T5.out.lt
             have fs : Fr (· = w.heap.size + 3) w5 (w5.setCell ⟨w.heap.size + 3, 0, none⟩ (.slice A5 (n + 1) c5)) := (Fr.refl _ _).setCell _ _ fun _ => rfl
             have X5 := Lib.hid ((X4.out.fr fa (fun i h1 h2 e => by have := (O4.out.lt _ e).1; omega)).fr fs (fun i h1 h2 => by omega))
             have R5 := Lib.hid ((R4.out.fr fa (fun e => by have := (O4.out.lt _ e).1; omega)).fr fs (by omega))
             have xx0 := X5.out.a0.c_ 0
             have xx1 := X5.out.a0.lt
             have H5 := Lib.hid h5
             have HOR := Lib.hid hor5
             have FS := Lib.hid fs
             have FA := Lib.hid fa
             clear h5 hg5 hor5 fs fa)
          | (go_at_call 171; (with_reducible refine (CBL.out _ R5.out).mono ?_); rintro y w6 ⟨rfl, r6_, f6_⟩; have R6 := Lib.hid r6_; have F6 := Lib.hid f6_; clear r6_ f6_))
        go_roundw
        case rel =>
          have hl5 := FA.out.size
          have hl4 := FT.out.size
          have fall : Fr (fun i => i = g ∨ i = w3.heap.size ∨ (Value.slice A n c).ownBlock = some i ∨ i = w.heap.size + 3) w4 w6 := ((FA.out.mono fun i _ e => Or.inr (Or.inr (Or.inl e))).step (FS.out.mono fun i _ e => Or.inr (Or.inr (Or.inr e)))).step (F6.out.mono fun i _ e => Or.inl e)
          have fal2 : Fr (fun i => i = g ∨ i = w3.heap.size ∨ (Value.slice A n c).ownBlock = some i ∨ i = w.heap.size + 3) wo w6 := (FT.out.mono fun i _ e => by rcases e with e | e; exact Or.inl e; exact Or.inr (Or.inl e)).step fall
          have hOl := HO1.out.lt
          refine ⟨D.wf (· == 32) (D.ns s) p3.1 p3.2, p3.2, n + 1, c5, A5, cs ++ [(t, .slice A4 n4 c4)], ?_, R6, Lib.hid (X5.out.fr F6.out (fun i h1 h2 => by omega)), Lib.hid (F6.out.blk (T5.out.put_ 0 _) (by omega)), Lib.hid ?_, Lib.hid ?_, ⟨fun h0 => ?_⟩, ⟨fun h0 => ?_⟩, by omega⟩
          · have := D.wf_le (p := (· == 32)) (l := D.ns s) (a := p3.1) (e := p3.2) (by rw [hlen]; exact hp3l)
            omega
          · have := H5.out
            rw [← ccs_app] at this
            exact (this.fr FS.out (fun i h1 h2 => by omega)).fr F6.out (fun i h1 h2 => by omega)
          · exact HF.out.trans fal2 (fun i hi e => by
              rcases e with e | e | e | e
              · exact e
              · omega
              · have := (hOl _ e).1; omega
              · omega)
          · obtain ⟨e1, e2, e3, e4, e5, e6, e7, e8⟩ := HGO.out.1 h0
            have hq := (HG0.out (L + 1) (by omega)).2 (by rw [← e4]; exact e5)
            rw [← e4] at hq
            have hJ := D.far_ge (· == 32) (D.ns s) p3.1
            have eJ : D.wf (· == 32) (D.ns s) p3.1 p3.2 = D.far (· == 32) (D.ns s) p3.1 := by rw [h0]; exact D.wf_live
            have hPL := HPL.out
            refine ⟨f, ks ++ [o2.l], by omega, by omega, by rw [eJ, List.map_append]; exact e8, ?_, ?_⟩
            · intro z hz
              rw [List.map_append] at hz
              rcases List.mem_append.1 hz with hz | hz
              · exact HB8.out z hz
              · simp at hz; rw [hz]; exact HT8.out
            · have hown : ∀ q, q < w4.heap.size → (Value.slice A5 (n + 1) c5).ownBlock = some q → (Value.slice A n c).ownBlock = some q := fun q hq e => by
                rcases HOR.out with e' | e'
                · rw [← e']; exact e
                · rw [e'] at e
                  have e : w4.heap.size + 0 = q ∨ q = (w4.alloc (.cells #[.string (D.sb t), .slice A4 n4 c4] 149)).heap.size := Or.inr (by injection e with e; exact e.symm)
                  simp at e
                  omega
              refine (HKC.out.fr fal2 (fun q hq hF => ⟨⟨hF.1, fun e => hF.2 (hown q (by omega) e)⟩, fun e => ?_⟩)).snoc rfl ?_
              · rcases e with e | e | e | e
                · have := hF.1; omega
                · have hs3 := F3.out.size; omega
                · exact hF.2 e
                · have := hF.1; omega
              · have hp := P4.out e5
                have hp' := (hp.weaken (F' := fun b => w3.heap.size + 1 ≤ b ∧ b < w4.heap.size) (fun b hb hF => ⟨by simpa using hF, hb⟩)).fr_base fall (fun i hF hi e => by
                  rcases e with e | e | e | e
                  · have := hF.1; omega
                  · have := hF.1; omega
                  · have := (OL.out _ e).2; have := (hOl _ e).2; have := F3.out.size; have := hF.1; omega
                  · have := hF.1; have := F3.out.size; omega)
                refine hp'.weaken fun b _ hF => ⟨by have := hF.1; have := F3.out.size; omega, fun e => ?_⟩
                have := (hOl _ (hown b hF.2 e)).2
                have := F3.out.size
                have := hF.1
                omega
          · have := HGO.out.2 h0
            rw [D.wf_dead h0]
            exact this
        case measure =>
          have h6 := R6.out.rz
          rw [hmz, h6, if_pos trivial]
          split
          · rename_i h0
            obtain ⟨e1, e2, e3, e4, e5, e6, e7, e8⟩ := HGO.out.1 h0
            have hq := (HG0.out (L + 1) (by omega)).2 (by rw [← e4]; exact e5)
            rw [← e4] at hq
            have hJ := D.far_ge (· == 32) (D.ns s) p3.1
            have eJ : D.wf (· == 32) (D.ns s) p3.1 p3.2 = D.far (· == 32) (D.ns s) p3.1 := by rw [h0]; exact D.wf_live
            rw [eJ]
            have hPL := HPL.out
            omega
          · omega
    · have CN := Lib.hid (fun W (hb : Below wo.heap.size wo W) => next_dead s g I e W (HR.out.on hb) he hI)
      have CZ := Lib.hid word_zero
      have hE := HE.out he
      have HEE := Kept.mk hE
      have HNE := Kept.mk he
      clear hE HL HE HN HD he
      go_wp2_with (first
        | (go_at_call 80; (with_reducible refine (CN.out wo (Below.refl _ _)).mono ?_); rintro y w1 ⟨rfl, b1⟩; have B1 := Lib.hid b1; clear b1)
        | (go_at_call 177; (with_reducible refine (CZ.out _).mono ?_); rintro y w2 ⟨rfl, b2⟩; have B2 := Lib.hid (B1.out.trans (b2.mono B1.out.size)); have q0 := (HX.out.on B2.out).a0.c_ 0; have q1 := (HX.out.on B2.out).a0.lt; clear b2)
        | (go_at_call 80; (with_reducible refine (CN.out _ B2.out).mono ?_); rintro y w3 ⟨rfl, b3⟩; have B3 := Lib.hid (B2.out.trans (b3.mono B2.out.size)); have r0 := (HT.out.on B3.out).c_ 0; have r1 := (HT.out.on B3.out).lt; clear b3))
      go_ret
      have hf := HF.out.step (Fr.of_below B3.out (Nat.le_refl _))
      exact ⟨A, n, c, I, e, rfl, HR.out.on B3.out, hI, hf, by rw [HEE.out.1, HEE.out.2]; exact D.tk_dead (by decide) HNE.out, fun h0 => absurd (HEE.out.2.symm.trans h0) HNE.out⟩
end Go.Proofs.YtohhfcfnclafdaaGreatDoor
set_option linter.unusedVariables false
set_option linter.unusedSimpArgs false
set_option maxRecDepth 100000
namespace Go.Proofs.YtohhfcfnclafdaaGreatDoor
open Go.RowKit

noncomputable def ldnd (v : Value) : Sem Value := Instr.loadAt 116 v
noncomputable def lvnd (a : Addr) : Sem Value := loadVar 116 a
noncomputable def stnd (p v : Value) : Sem Unit := Instr.storeAt 116 p v
noncomputable def bdnd (ps : Array (Nat × Value)) : Sem Value := Instr.build 116 ps
noncomputable def bsnd (n : Nat) (ps : Array (Nat × Value)) : Sem Value := Instr.buildSlice 22 n ps
theorem ld_nd (v : Value) : Instr.loadAt 116 v = ldnd v := rfl
theorem lv_nd (a : Addr) : loadVar 116 a = lvnd a := rfl
theorem st_nd (p v : Value) : Instr.storeAt 116 p v = stnd p v := rfl
theorem bd_nd (ps : Array (Nat × Value)) : Instr.build 116 ps = bdnd ps := rfl
theorem bs_nd (n : Nat) (ps : Array (Nat × Value)) : Instr.buildSlice 22 n ps = bsnd n ps := rfl
noncomputable def blnd (a : Addr) (w : World) : Result Value := (loadVar 116 a).run Tryz.prog w
theorem run_lvnd (w : World) (a : Addr) : (lvnd a).run Tryz.prog w = (nS.rd w a).elim (blnd a w) fun x => .ok (.agg (nS.v x)) w := by
  cases h : nS.rd w a with
  | none => rfl
  | some x => exact Shp.loadVar_of Tryz.isAgg116 Tryz.sizeOf116 (Shp.at_of h)
theorem run_ldnd (w : World) (a : Addr) : (ldnd (.pointer (some a))).run Tryz.prog w = (nS.rd w a).elim (blnd a w) fun x => .ok (.agg (nS.v x)) w := by
  rw [← run_lvnd]; simp only [ldnd, lvnd, Instr.loadAt, Instr.sureAddr, Sem.run_bind, Sem.run_pure, Result.andThen_ok]
theorem nd_lv {w : World} {a : Addr} {x : D.Nv} (h : nS.rd w a = some x) : (loadVar 116 a).run Tryz.prog w = .ok (.agg (nS.v x)) w := (run_lvnd w a).trans (by rw [h]; rfl)
abbrev z15 : Array Value := #[.int .i64 0, .string ⟨#[]⟩, .int .u8 0, .int .u8 0, .int .u8 0, .int .u8 0, .int .u8 0, .int .u8 0, .int .u8 0, .int .u8 0, .int .u8 0, .int .u8 0, .int .u8 0, .int .u8 0, .slice none 0 0]
theorem nd_cells (y : D.Nv) : ∃ b0 b1 b2 b3 b4 b5 b6 b7 b8 b9 b10 b11 : Value, bys y.n.l = [b0, b1, b2, b3, b4, b5, b6, b7, b8, b9, b10, b11] ∧ nS.v y = #[.int .i64 (y.k : Nat), .string y.t, b0, b1, b2, b3, b4, b5, b6, b7, b8, b9, b10, b11, .slice y.A y.m y.c] := by
  obtain ⟨b0, b1, b2, b3, b4, b5, b6, b7, b8, b9, b10, b11, hn⟩ := Nm.twelve y.n
  have : bys y.n.l = [b0, b1, b2, b3, b4, b5, b6, b7, b8, b9, b10, b11] := by simpa [Nm.nc] using congrArg Array.toList hn
  exact ⟨b0, b1, b2, b3, b4, b5, b6, b7, b8, b9, b10, b11, this, by simp [Shp.v, nS, ncells, this]⟩
theorem run_stnd_new (w : World) (n : Nat) (x : D.Nv) (h : n = w.heap.size) :
    (stnd (.pointer (some ⟨n, 0, none⟩)) (.agg (nS.v x))).run Tryz.prog (w.alloc (.cells #[.int .i64 0, .string ⟨#[]⟩, .int .u8 0, .int .u8 0, .int .u8 0, .int .u8 0, .int .u8 0, .int .u8 0, .int .u8 0, .int .u8 0, .int .u8 0, .int .u8 0, .int .u8 0, .int .u8 0, .slice none 0 0] 116)) = .ok () (w.alloc (.cells (nS.v x) 116)) := by
  subst h
  exact run_storeAt_new (P := Tryz.prog) w 116 _ (nS.v x) (by rw [nS.v_size]; kernel_rfl) (by rw [nS.v_size]; rfl) (nS.v_one x)
theorem nd_st {w : World} {g : Nat} {x : D.Nv} (h : Blk w g 116 (nS.v x)) (y : D.Nv) :
    ∃ w', (stnd (.pointer (some ⟨g, 0, none⟩)) (.agg (nS.v y))).run Tryz.prog w = .ok () w' ∧ Blk w' g 116 (nS.v y) ∧ Fr (· = g) w w' := by
  have hr : (storeVar 116 ⟨g, 0, none⟩ (.agg (nS.v y))).run Tryz.prog w = .ok () (w.setRow g (nS.v y)) :=
    run_storeVar_row (P := Tryz.prog) w g _ _ (nS.v x) (nS.v y) h.out (by rw [nS.v_size]; kernel_rfl) (by rw [nS.v_size, nS.v_size]) (nS.v_one y)
  refine ⟨w.setRow g (nS.v y), ?_, ⟨?_⟩, ⟨rfl, rfl, rfl, by simp [World.setRow], fun i _ hi => ?_⟩⟩
  · simp only [stnd, Instr.storeAt, Instr.sureAddr, Sem.run_bind, Sem.run_pure, Result.andThen_ok]
    exact hr
  · have := h.out
    simp [World.setRow, Array.getElem?_modify, this]
  · have hne : ¬ g = i := fun e => hi e.symm
    simp [World.setRow, Array.getElem?_modify, hne]
theorem run_bsnd (w : World) (y : D.Nv) : (bsnd 1 #[(0, .agg (nS.v y))]).run Tryz.prog w = .ok (.slice (some ⟨w.heap.size, 0, none⟩) 1 1) (w.alloc (.cells (nS.v y) 116)) := by
  obtain ⟨b0, b1, b2, b3, b4, b5, b6, b7, b8, b9, b10, b11, _, e⟩ := nd_cells y
  rw [e]
  simp [bsnd, Instr.buildSlice, go_sem]
theorem run_bdnd_1 (w : World) : (bdnd #[(0, .int .i64 1)]).run Tryz.prog w = .ok (.agg (nS.v ⟨1, ⟨#[]⟩, Nm.D.zero, none, 0, 0⟩)) w := by
  simp [bdnd, Instr.build, go_sem]
  rfl
theorem run_bdnd_5 (w : World) : (bdnd #[(0, .int .i64 5)]).run Tryz.prog w = .ok (.agg (nS.v ⟨5, ⟨#[]⟩, Nm.D.zero, none, 0, 0⟩)) w := by
  simp [bdnd, Instr.build, go_sem]
  rfl
theorem run_bdnd_0 (w : World) (u : ByteArray) : (bdnd #[(0, .int .i64 0), (1, .string u)]).run Tryz.prog w = .ok (.agg (nS.v ⟨0, u, Nm.D.zero, none, 0, 0⟩)) w := by
  simp [bdnd, Instr.build, go_sem]
  rfl
/-- A part's name stored. -/
theorem nd_name {w : World} {g : Nat} {y : D.Nv} (h : Blk w g 116 (nS.v y)) (m : Nm.D.Nm) :
    ∃ w', (Nm.st 43 (.pointer (some ⟨g, 2, none⟩)) (.agg (Nm.nc m))).run Tryz.prog w = .ok () w' ∧ Blk w' g 116 (nS.v { y with n := m }) ∧ Fr (· = g) w w' := by
  have hs := run_storeCells_at (P := Tryz.prog) g 2 116 (bys m.l) 0 (nS.v y) w h.out (by rw [nS.v_size, bys_len, m.len]; decide) (bys_one m.l)
  have e : ((nS.v y).toList.take (2 + 0) ++ bys m.l ++ (nS.v y).toList.drop (2 + 0 + (bys m.l).length)).toArray = nS.v { y with n := m } := by
    rw [bys_len, m.len]
    show ((ncells y).take 2 ++ bys m.l ++ (ncells y).drop 14).toArray = (ncells { y with n := m }).toArray
    have h2 : (ncells y).drop 14 = [.slice y.A y.m y.c] := by
      show (bys y.n.l ++ [Value.slice y.A y.m y.c]).drop 12 = _
      have : 12 = (bys y.n.l).length := by rw [bys_len, y.n.len]
      rw [this, List.drop_left]
    rw [h2]
    simp [ncells]
  rw [e] at hs
  have hi : (Tryz.prog.info? 43).map (·.size) = some 12 := by kernel_rfl
  refine ⟨w.setRow g (nS.v { y with n := m }), ?_, ⟨?_⟩, ⟨rfl, rfl, rfl, by simp [World.setRow], fun i _ hi => ?_⟩⟩
  · simp only [Nm.st, Instr.storeAt, Instr.sureAddr, Sem.run_bind, Sem.run_pure, Result.andThen_ok]
    cases hq : Tryz.prog.info? 43 with
    | none => simp [hq] at hi
    | some i =>
      have hsz : i.size = 12 := by simpa [hq] using hi
      simp [storeVar, sizeOf, typeInfo, hq, Value.cells, Nm.nc_size, hsz]
      exact hs
  · have := h.out
    simp [World.setRow, Array.getElem?_modify, this]
  · have hne : ¬ g = i := fun e => hi e.symm
    simp [World.setRow, Array.getElem?_modify, hne]
theorem nd_kind {w : World} {g : Nat} {y : D.Nv} (h : Blk w g 116 (nS.v y)) (k : Nat) : Blk (w.setCell ⟨g, 0, none⟩ (.int .i64 (k : Nat))) g 116 (nS.v { y with k := k }) := by
  have := h.put_ 0 (.int .i64 (k : Nat))
  have e : (nS.v y).setIfInBounds 0 (.int .i64 (k : Nat)) = nS.v { y with k := k } := by simp [Shp.v, nS, ncells]
  rwa [e] at this
theorem nd_cases {w : World} {g : Nat} {y : D.Nv} (h : Blk w g 116 (nS.v y)) (A : Option Addr) (m c : Nat) : Blk (w.setCell ⟨g, 14, none⟩ (.slice A m c)) g 116 (nS.v { y with A := A, m := m, c := c }) := by
  have := h.put_ 14 (.slice A m c)
  obtain ⟨b0, b1, b2, b3, b4, b5, b6, b7, b8, b9, b10, b11, hb, e⟩ := nd_cells y
  have e2 : (nS.v y).setIfInBounds 14 (.slice A m c) = nS.v { y with A := A, m := m, c := c } := by
    rw [e]
    simp [Shp.v, nS, ncells, hb]
  rwa [e2] at this
theorem nd_c0 {w : World} {g : Nat} {y : D.Nv} (h : Blk w g 116 (nS.v y)) : w.cell? ⟨g, 0, none⟩ = some (.int .i64 (y.k : Nat)) := by
  rw [h.c_ 0]
  simp [Shp.v, nS, ncells]
theorem nd_rd {w : World} {g : Nat} {y : D.Nv} (h : Blk w g 116 (nS.v y)) : nS.rd w ⟨g, 0, none⟩ = some y := Shp.rd_blk h
end Go.Proofs.YtohhfcfnclafdaaGreatDoor
set_option linter.unusedVariables false
set_option linter.unusedSimpArgs false
set_option maxRecDepth 100000
namespace Go.Proofs.YtohhfcfnclafdaaGreatDoor
open Go.RowKit
attribute [local go_sem ↓] Go.wp_at_zero Go.wp_at_succ Nm.ld_a Nm.ld_n Nm.st_a Nm.st_n Nm.lv_a Nm.lv_n ld_nd lv_nd st_nd bd_nd bs_nd
attribute [local go_sem] Nm.run_ld_a Nm.run_ld_n Nm.run_lv_a Nm.run_lv_n Nm.rd_new Nm.rd_old Nm.rd_drew Nm.rd_drewN Nm.st_z run_lvnd run_ldnd run_stnd_new run_bsnd run_bdnd_1 run_bdnd_5 run_bdnd_0 Shp.rd_new Shp.rd_old Shp.rd_drew Shp.rd_drewN

/-- What a place's reader reads by. -/
structure By (W0 g d : Nat) (v : Bool) (w : World) : Prop where
  a0 : Blk w W0 168 #[vr g]
  a1 : Blk w (W0 + 1) 99 #[.int .i64 (d : Nat), .bool v]
theorem By.fr {W0 g d : Nat} {v : Bool} {w w' : World} {S : Nat → Prop} (h : By W0 g d v w) (f : Fr S w w') (hS : ∀ i, W0 ≤ i → i ≤ W0 + 1 → ¬ S i) : By W0 g d v w' := ⟨f.blk h.a0 (hS _ (by omega) (by omega)), f.blk h.a1 (hS _ (by omega) (by omega))⟩
theorem D.plc_ex {l : List Nat} {m : Bool → Nat → D.Ot} {deep w : Bool} {i K J Q : Nat} (hK : D.far D.wdB l i = K) (hJ : D.far (· == 32) l (K + 1) = J) (hQ : D.far D.wdB l J = Q) : D.plc l m deep w i =
    (if K = i then D.er_ i 3
    else if Nm.D.isB (D.sub l i K) = false then D.er_ i 15
    else if l[K]? = some 125 then (⟨[.mk 1 [] (D.sub l i K) [] []], K + 1, 0⟩ : D.Ot)
    else if l[K]? ≠ some 44 then D.er_ K 3
    else if Q = J then D.er_ J 3
    else if D.kndT (D.sub l J Q) = 0 then D.er_ J 16
    else if D.kndT (D.sub l J Q) = 2 then (if l[Q]? ≠ some 125 then D.er_ Q 3 else (⟨[.mk 2 [] (D.sub l i K) [] []], Q + 1, 0⟩ : D.Ot))
    else if deep then D.er_ J 19
    else if l[Q]? ≠ some 44 then D.er_ Q 3
    else D.cas l (D.kndT (D.sub l J Q)) (D.sub l i K) (m (w || D.kndT (D.sub l J Q) == 3)) (l.length + 1) (D.far (· == 32) l (Q + 1)) [] []) := by
  subst hK hJ hQ
  rfl
/-- What is left of a place: its part in memory. -/
def Pq (r : Nat) (o : D.Ot) (W : World) (w' : World) (y : D.Nv) : Prop :=
  o.e = 0 → ∃ (nd : D.Nd) (A : Option Addr) (m c : Nat), o.l = [nd] ∧ y = nv nd A m c ∧ Pel (Pk (fun b => W.heap.size ≤ b) w' r) (fun b => W.heap.size ≤ b) w' nd ⟨A, m, c⟩
theorem nb_is {l : List Nat} {a c : Nat} (hc : c ≠ 0) : D.nb l a 0 = c ↔ l[a]? = some c := by
  rw [D.nb_live, List.getD]
  cases hx : l[a]? with
  | none => simp; exact fun h => hc h.symm
  | some y => simp
/-- A place without a comma. -/
theorem plc_a {l : List Nat} {m : Bool → Nat → D.Ot} {dp v : Bool} {i K a e r : Nat} {o : D.Ot} (hK : D.far D.wdB l i = K) (hi : i ≤ K) (hKl : K ≤ l.length) (h256 : ∀ c ∈ l, c < 256) (ho : D.plc l m dp v i = o) (hx : D.nx i K (D.nmE (D.sub l i K)) = (a, e)) (hc : D.nb l a e ≠ 44) :
    D.tk l 125 a e = (o.a, o.e) ∧ ∀ W w', Pq r o W w' ⟨1, ⟨#[]⟩, D.nmR (D.sub l i K), none, 0, 0⟩ := by
  rw [D.plc_ex hK rfl rfl] at ho
  unfold D.nx at hx
  by_cases h1 : K = i
  · rw [if_pos h1] at ho hx
    cases hx
    subst ho
    exact ⟨D.tk_dead (by decide) (Nat.succ_ne_zero _), fun W w' h0 => absurd h0 (Nat.succ_ne_zero _)⟩
  · rw [if_neg h1] at ho hx
    have hne := sub_ex h1 hi hKl
    cases hb : Nm.D.isB (D.sub l i K) with
    | false =>
      have e1 : D.nmE (D.sub l i K) = 15 := by unfold D.nmE; rw [hb]; rfl
      rw [if_pos hb] at ho
      rw [e1] at hx
      cases hx
      subst ho
      exact ⟨D.tk_dead (by decide) (Nat.succ_ne_zero _), fun W w' h0 => absurd h0 (Nat.succ_ne_zero _)⟩
    | true =>
      have e1 : D.nmE (D.sub l i K) = 0 := by unfold D.nmE; rw [hb]; rfl
      rw [if_neg (by simp [hb])] at ho
      rw [e1] at hx
      cases hx
      rw [if_pos rfl] at hc ⊢
      have hc' : l[K]? ≠ some 44 := fun h => hc ((nb_is (by decide)).2 h)
      by_cases h5 : l[K]? = some 125
      · rw [if_pos h5] at ho
        subst ho
        refine ⟨D.tk_live h5, fun W w' _ => ⟨_, none, 0, 0, rfl, ?_, pel_leaf (fun c hc => by cases hc) (sub_lt h256 i K)⟩⟩
        have : D.nmR (D.sub l i K) = Nm.D.pad (D.sb (D.sub l i K)) := by unfold D.nmR D.nmV; rw [if_neg hne, hb]; rfl
        rw [this]
        rfl
      · rw [if_neg h5, if_pos hc'] at ho
        subst ho
        exact ⟨D.tk_not (by decide) h5, fun W w' h0 => absurd h0 (Nat.succ_ne_zero _)⟩
/-- A place with a comma: what stands behind it. -/
theorem plc_b {l : List Nat} {m : Bool → Nat → D.Ot} {dp v : Bool} {i K a e : Nat} {o : D.Ot} (hK : D.far D.wdB l i = K) (hi : i ≤ K) (hKl : K ≤ l.length) (ho : D.plc l m dp v i = o) (hx : D.nx i K (D.nmE (D.sub l i K)) = (a, e)) (hc : D.nb l a e = 44) :
    a = K ∧ e = 0 ∧ D.nmR (D.sub l i K) = Nm.D.pad (D.sb (D.sub l i K)) ∧ l[K]? = some 44 ∧ o =
      (if D.far D.wdB l (D.far (· == 32) l (K + 1)) = D.far (· == 32) l (K + 1) then D.er_ (D.far (· == 32) l (K + 1)) 3
      else if D.kndT (D.sub l (D.far (· == 32) l (K + 1)) (D.far D.wdB l (D.far (· == 32) l (K + 1)))) = 0 then D.er_ (D.far (· == 32) l (K + 1)) 16
      else if D.kndT (D.sub l (D.far (· == 32) l (K + 1)) (D.far D.wdB l (D.far (· == 32) l (K + 1)))) = 2 then (if l[D.far D.wdB l (D.far (· == 32) l (K + 1))]? ≠ some 125 then D.er_ (D.far D.wdB l (D.far (· == 32) l (K + 1))) 3 else (⟨[.mk 2 [] (D.sub l i K) [] []], D.far D.wdB l (D.far (· == 32) l (K + 1)) + 1, 0⟩ : D.Ot))
      else if dp then D.er_ (D.far (· == 32) l (K + 1)) 19
      else if l[D.far D.wdB l (D.far (· == 32) l (K + 1))]? ≠ some 44 then D.er_ (D.far D.wdB l (D.far (· == 32) l (K + 1))) 3
      else D.cas l (D.kndT (D.sub l (D.far (· == 32) l (K + 1)) (D.far D.wdB l (D.far (· == 32) l (K + 1))))) (D.sub l i K) (m (v || D.kndT (D.sub l (D.far (· == 32) l (K + 1)) (D.far D.wdB l (D.far (· == 32) l (K + 1)))) == 3)) (l.length + 1) (D.far (· == 32) l (D.far D.wdB l (D.far (· == 32) l (K + 1)) + 1)) [] []) := by
  rw [D.plc_ex hK rfl rfl] at ho
  unfold D.nx at hx
  have he : e = 0 := by
    by_cases he : e = 0
    · exact he
    · rw [D.nb_dead he] at hc; exact absurd hc (by decide)
  subst he
  by_cases h1 : K = i
  · rw [if_pos h1] at hx
    cases hx
  · rw [if_neg h1] at ho hx
    have hne := sub_ex h1 hi hKl
    cases hb : Nm.D.isB (D.sub l i K) with
    | false =>
      have e1 : D.nmE (D.sub l i K) = 15 := by unfold D.nmE; rw [hb]; rfl
      rw [e1] at hx
      cases hx
    | true =>
      have e1 : D.nmE (D.sub l i K) = 0 := by unfold D.nmE; rw [hb]; rfl
      rw [if_neg (by simp [hb])] at ho
      rw [e1] at hx
      have ha : K = a := by injection hx
      subst ha
      have h44 : l[K]? = some 44 := (nb_is (by decide)).1 hc
      rw [if_neg (by rw [h44]; decide), if_neg (by simp [h44])] at ho
      refine ⟨rfl, rfl, ?_, h44, ho.symm⟩
      unfold D.nmR D.nmV
      rw [if_neg hne, hb]
      rfl
end Go.Proofs.YtohhfcfnclafdaaGreatDoor
