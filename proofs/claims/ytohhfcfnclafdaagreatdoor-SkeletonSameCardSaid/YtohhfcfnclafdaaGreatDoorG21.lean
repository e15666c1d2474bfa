/-
  The program's reader: a name, a kind's word, a case's word.
  The program's reader: blanks, a comma, a name, a kind.
  A choice that is being read: its part in memory, its rows of words and of cases.
-/
import Derived.Test.YtohhfcfnclafdaaGreatDoorG20
import Derived.Test.YtohhfcfnclafdaaGreatDoorG14
set_option linter.unusedVariables false
set_option linter.unusedSimpArgs false
set_option maxRecDepth 100000
namespace Go.Proofs.YtohhfcfnclafdaaGreatDoor
open Go.RowKit
attribute [local go_sem ↓] Go.wp_at_zero Go.wp_at_succ Nm.ld_a Nm.ld_n Nm.st_a Nm.st_n Nm.lv_a Nm.lv_n
attribute [local go_sem] Nm.run_ld_a Nm.run_ld_n Nm.run_lv_a Nm.run_lv_n Nm.rd_new Nm.rd_old Nm.rd_drew Nm.rd_drewN Nm.st_z

def D.nmE (t : List Nat) : Nat := if Nm.D.isB t then 0 else 15
def D.nmV (t : List Nat) : Nm.D.Nm := if Nm.D.isB t then Nm.D.pad (D.sb t) else Nm.D.zero
def D.kdE (d k : Nat) : Nat := if k = 0 then 16 else if (k == 3 || k == 4) && d == 3 then 19 else 0
def D.lgE (k : Nat) (t : List Nat) (ws : List (List Nat)) : Nat := if D.cwd k t = false then 15 else if t ∈ ws then 8 else 0
theorem fr_grown {w w' : World} {b : Nat} (h : w.grownBy w' (some b)) : Fr (· = b) w w' := ⟨h.os, h.tape, h.output, h.size, fun i hi hn => h.block i hi fun e => hn (by injection e)⟩
theorem rw_fr {sz n : Nat} {S : Nat → Prop} {w w' : World} {A : Option Addr} {xs : List Value} (h : Rw sz w A n xs) (k : Fr S w w') (hS : ∀ ad, A = some ad → ¬ S ad.block) : Rw sz w' A n xs := ⟨h.len, fun hn => by
  obtain ⟨ad, e, hl, hc⟩ := h.to hn
  exact ⟨ad, e, Nat.lt_of_lt_of_le hl k.size, fun j u hu => (World.cell?_of_block (w := w) (by rw [block_of_add]; exact k.same _ hl (hS ad e))).trans (hc j u hu)⟩⟩
theorem nameC (b : Nat) (x0 : Nm.D.Nm) (u : ByteArray) (W : World) (hB : Blk W b 43 (Nm.nc x0)) : Calls Tryz.prog 169 #[.string u, vr b] W fun x w' => x = .returned (.int .i64 (D.nmE (D.ns u) : Nat)) ∧ Blk w' b 43 (Nm.nc (D.nmV (D.ns u))) ∧ Fr (· = b) W w' := by
  have HB := Lib.hid hB
  clear hB
  cases hb : Nm.D.isB (D.ns u) with
  | true =>
    have cP := Lib.hid (fun W => parse_is u hb W)
    have e1 : D.nmE (D.ns u) = 0 := by unfold D.nmE; rw [hb]; rfl
    have e2 : D.nmV (D.ns u) = Nm.D.pad u := by unfold D.nmV; rw [hb, D.sb_ns]; rfl
    rw [e1, e2]
    clear e1 e2 hb
    go_enter Tryz.func169, Tryz.ntmps169
    go_wp2_with (go_at_call 170; (with_reducible refine (cP.out _).mono ?_); rintro e w1 ⟨rfl, b1⟩; obtain ⟨w9, hst, B9, hg9⟩ := Nm.st_blk (.inr rfl) (HB.out.on b1) (Nm.nc_size x0) (Nm.D.pad u))
    go_ret
    exact ⟨rfl, B9, (Fr.of_below b1 (Nat.le_refl _)).step (fr_grown hg9)⟩
  | false =>
    have cP := Lib.hid (fun W => parse_not u hb W)
    have e1 : D.nmE (D.ns u) = 15 := by unfold D.nmE; rw [hb]; rfl
    have e2 : D.nmV (D.ns u) = Nm.D.zero := by unfold D.nmV; rw [hb]; rfl
    rw [e1, e2]
    clear e1 e2 hb
    go_enter Tryz.func169, Tryz.ntmps169
    go_wp2_with (go_at_call 170; (with_reducible refine (cP.out _).mono ?_); rintro e w1 ⟨rfl, b1⟩; obtain ⟨w9, hst, B9, hg9⟩ := Nm.st_blk (.inr rfl) (HB.out.on b1) (Nm.nc_size x0) Nm.D.zero)
    go_ret
    exact ⟨rfl, B9, (Fr.of_below b1 (Nat.le_refl _)).step (fr_grown hg9)⟩
theorem kindC (b p d z0 : Nat) (v : Bool) (u : ByteArray) (W : World) (hB : Blk W b 3 #[.int .i64 (z0 : Nat)]) (hP : Blk W p 99 #[.int .i64 (d : Nat), .bool v]) (hne : D.ns u ≠ []) (hK : Knd W) (hd : d ≤ 3) :
    Calls Tryz.prog 172 #[.string u, vr b, vr p] W fun x w' => x = .returned (.int .i64 (D.kdE d (D.kndT (D.ns u)) : Nat)) ∧ Blk w' b 3 #[.int .i64 (D.kndT (D.ns u) : Nat)] ∧ Fr (· = b) W w' := by
  have cK := Lib.hid (kindOf_any u W hK hne)
  have hk : D.kndT (D.ns u) = 0 ∨ D.kndT (D.ns u) = 2 ∨ D.kndT (D.ns u) = 3 ∨ D.kndT (D.ns u) = 4 := D.knd_cases _
  have hbp : b ≠ p := fun e => by
    subst e
    have := hB.out.symm.trans hP.out
    injection this with this
    injection this with _ h2
    exact absurd h2 (by decide)
  have cc := hB.c_ 0
  have cf := hB.f_
  have p0 := hP.c_ 0
  have BB := Lib.hid (fun k : Nat => hB.put_ 0 (.int .i64 (k : Nat)))
  have cC := Lib.hid (fun k W => choice_any k W)
  have hFr := fun k : Nat => (Fr.refl (· = b) W).setCell ⟨b, 0, none⟩ (.int .i64 (k : Nat)) (fun _ => rfl)
  have HF := Lib.hid hFr
  obtain ⟨k, hkk⟩ : ∃ k, D.kndT (D.ns u) = k := ⟨_, rfl⟩
  rw [hkk] at cK hk ⊢
  clear hB hP hkk hK hne hFr
  have hz : ∀ m : Nat, Blk (W.setCell ⟨b, 0, none⟩ (.int .i64 (m : Nat))) b 3 #[.int .i64 (m : Nat)] := fun m => BB.out m
  have HZ := Lib.hid hz
  clear hz
  rcases hk with rfl | rfl | rfl | rfl
  · have CC := Lib.hid (cC.out 0)
    go_enter Tryz.func172, Tryz.ntmps172
    go_wp2_with (go_at_call 173; (with_reducible refine cK.out.mono ?_); rintro e w1 ⟨rfl, rfl⟩)
    go_ret
    exact ⟨rfl, HZ.out 0, HF.out 0⟩
  · have CC : Hid (∀ W, Calls Tryz.prog 129 #[.int .i64 2] W fun e w' => e = .returned (.bool false) ∧ W = w') := Lib.hid (cC.out 2)
    go_enter Tryz.func172, Tryz.ntmps172
    go_wp2_with (first
      | (go_at_call 173; (with_reducible refine cK.out.mono ?_); rintro e w1 ⟨rfl, rfl⟩)
      | (go_at_call 129; (with_reducible refine (CC.out _).mono ?_); rintro e w1 ⟨rfl, rfl⟩))
    go_ret
    exact ⟨rfl, HZ.out 2, HF.out 2⟩
  · have CC : Hid (∀ W, Calls Tryz.prog 129 #[.int .i64 3] W fun e w' => e = .returned (.bool true) ∧ W = w') := Lib.hid (cC.out 3)
    have hp0 : (W.setCell ⟨b, 0, none⟩ (.int .i64 3)).cell? ⟨p, 0, none⟩ = some (.int .i64 (d : Nat)) := by
      rw [World.cell?_of_block (w := W) (Below.heap_setCell W ⟨b, 0, none⟩ (.int .i64 3) p (Ne.symm hbp))]; exact p0
    by_cases h3 : d = 3
    · subst h3
      go_enter Tryz.func172, Tryz.ntmps172
      go_wp2_with (first
        | (go_at_call 173; (with_reducible refine cK.out.mono ?_); rintro e w1 ⟨rfl, rfl⟩)
        | (go_at_call 129; (with_reducible refine (CC.out _).mono ?_); rintro e w1 ⟨rfl, rfl⟩))
      go_ret
      exact ⟨rfl, HZ.out 3, HF.out 3⟩
    · have i3 : ((d : Int) == 3) = false := by simp; omega
      have hE : D.kdE d 3 = 0 := by unfold D.kdE; simp [h3]
      rw [hE]
      clear hE h3
      go_enter Tryz.func172, Tryz.ntmps172
      go_wp2_with (first
        | (go_at_call 173; (with_reducible refine cK.out.mono ?_); rintro e w1 ⟨rfl, rfl⟩)
        | (go_at_call 129; (with_reducible refine (CC.out _).mono ?_); rintro e w1 ⟨rfl, rfl⟩))
      go_ret
      exact ⟨rfl, HZ.out 3, HF.out 3⟩
  · have CC : Hid (∀ W, Calls Tryz.prog 129 #[.int .i64 4] W fun e w' => e = .returned (.bool true) ∧ W = w') := Lib.hid (cC.out 4)
    have hp0 : (W.setCell ⟨b, 0, none⟩ (.int .i64 4)).cell? ⟨p, 0, none⟩ = some (.int .i64 (d : Nat)) := by
      rw [World.cell?_of_block (w := W) (Below.heap_setCell W ⟨b, 0, none⟩ (.int .i64 4) p (Ne.symm hbp))]; exact p0
    by_cases h3 : d = 3
    · subst h3
      go_enter Tryz.func172, Tryz.ntmps172
      go_wp2_with (first
        | (go_at_call 173; (with_reducible refine cK.out.mono ?_); rintro e w1 ⟨rfl, rfl⟩)
        | (go_at_call 129; (with_reducible refine (CC.out _).mono ?_); rintro e w1 ⟨rfl, rfl⟩))
      go_ret
      exact ⟨rfl, HZ.out 4, HF.out 4⟩
    · have i3 : ((d : Int) == 3) = false := by simp; omega
      have hE : D.kdE d 4 = 0 := by unfold D.kdE; simp [h3]
      rw [hE]
      clear hE h3
      go_enter Tryz.func172, Tryz.ntmps172
      go_wp2_with (first
        | (go_at_call 173; (with_reducible refine cK.out.mono ?_); rintro e w1 ⟨rfl, rfl⟩)
        | (go_at_call 129; (with_reducible refine (CC.out _).mono ?_); rintro e w1 ⟨rfl, rfl⟩))
      go_ret
      exact ⟨rfl, HZ.out 4, HF.out 4⟩
theorem caseC (q r k : Nat) (A : Option Addr) (n c : Nat) (cs : List (List Nat × Value)) (u : ByteArray) (W : World) (hq : W.cell? ⟨q, 0, none⟩ = some (.int .i64 (k : Nat))) (hr : W.cell? ⟨r, 0, none⟩ = some (.slice A n c))
    (hR : Rw 2 W A n (ccs cs)) (hb : D.B8 (cs.map (·.1))) (h1 : ∀ x ∈ cs, x.2.oneCell' = true) (hn : n ≤ 1000000) (hE : Env W) :
    Calls Tryz.prog 174 #[.string u, vr q, vr r] W fun x w' => x = .returned (.int .i64 (D.lgE k (D.ns u) (cs.map (·.1)) : Nat)) ∧ Below W.heap.size W w' := by
  have cW := Lib.hid (caseWord_any k u W hE)
  have cF := Lib.hid (fun W' (hb2 : Below W.heap.size W W') => cfind_any A n c cs u W' (hR.on hb2) hb h1 hn)
  have HR := Lib.hid hr
  obtain ⟨t, ht⟩ : ∃ t, D.ns u = t := ⟨_, rfl⟩
  obtain ⟨ws, hw⟩ : ∃ ws, cs.map (·.1) = ws := ⟨_, rfl⟩
  rw [ht] at cW cF ⊢
  rw [hw] at cF ⊢
  clear ht hw hR hb h1 hE hr
  cases hc : D.cwd k t with
  | false =>
    have hL : D.lgE k t ws = 15 := by unfold D.lgE; rw [if_pos hc]
    rw [hc] at cW
    rw [hL]
    clear hL hc
    go_enter Tryz.func174, Tryz.ntmps174
    go_wp2_with (go_at_call 175; (with_reducible refine cW.out.mono ?_); rintro e w1 ⟨rfl, b1⟩)
    go_ret
    exact ⟨rfl, b1⟩
  | true =>
    rw [hc] at cW
    have hL : D.lgE k t ws = if t ∈ ws then 8 else 0 := by unfold D.lgE; rw [if_neg (by rw [hc]; simp)]
    rw [hL]
    clear hL hc
    by_cases hm : t ∈ ws
    · have hi : (0 : Int) ≤ D.fnd ws t := by unfold D.fnd; rw [if_pos hm]; omega
      have h0 : decide ((0 : Int) ≤ D.fnd ws t) = true := decide_eq_true hi
      rw [if_pos hm]
      obtain ⟨z, hz⟩ : ∃ z, D.fnd ws t = z := ⟨_, rfl⟩
      rw [hz] at hi cF h0
      clear hm hz
      go_enter Tryz.func174, Tryz.ntmps174
      go_wp2_with (first
        | (go_at_call 175; (with_reducible refine cW.out.mono ?_); rintro e w1 ⟨rfl, b1⟩; have hr1 := cell_kept_ b1 HR.out; have B1 := Lib.hid b1; clear b1)
        | (go_at_call 176; (with_reducible refine (cF.out _ B1.out).mono ?_); rintro e w2 ⟨rfl, b2⟩))
      go_ret
      exact ⟨rfl, B1.out.trans (b2.mono B1.out.size)⟩
    · have hi : ¬ (0 : Int) ≤ D.fnd ws t := by unfold D.fnd; rw [if_neg hm]; omega
      have h0 : decide ((0 : Int) ≤ D.fnd ws t) = false := decide_eq_false hi
      have hi' : D.fnd ws t < 0 := by omega
      rw [if_neg hm]
      obtain ⟨z, hz⟩ : ∃ z, D.fnd ws t = z := ⟨_, rfl⟩
      rw [hz] at hi cF h0 hi'
      clear hm hz
      go_enter Tryz.func174, Tryz.ntmps174
      go_wp2_with (first
        | (go_at_call 175; (with_reducible refine cW.out.mono ?_); rintro e w1 ⟨rfl, b1⟩; have hr1 := cell_kept_ b1 HR.out; have B1 := Lib.hid b1; clear b1)
        | (go_at_call 176; (with_reducible refine (cF.out _ B1.out).mono ?_); rintro e w2 ⟨rfl, b2⟩))
      go_ret
      exact ⟨rfl, B1.out.trans (b2.mono B1.out.size)⟩
theorem sub_nil {l : List Nat} {i : Nat} : D.sub l i i = [] := by unfold D.sub; exact List.drop_of_length_le (by simp; omega)
theorem sub_ne {l : List Nat} {i k : Nat} (h : i < k) (hk : k ≤ l.length) : D.sub l i k ≠ [] := by
  intro e
  have := congrArg List.length e
  unfold D.sub at this
  simp at this
  omega
set_option maxHeartbeats 4000000 in
theorem word_name (s : ByteArray) (g a : Nat) (b : Nat) (x0 : Nm.D.Nm) (w : World) (h : Rdr w g s a 0) (ha : a ≤ s.size) (hs : s.size ≤ 1000) (hB : Blk w b 43 (Nm.nc x0)) (hgb : g ≠ b) :
    Calls Tryz.prog 168 #[vr g, .func (.func 169) #[] #[vr b]] w fun x w' => Fr (fun i => i = g ∨ i = b) w w' ∧
      (D.far D.wdB (D.ns s) a = a → x = .returned (.string ⟨#[]⟩) ∧ Rdr w' g s a 3 ∧ Blk w' b 43 (Nm.nc x0)) ∧
      (D.far D.wdB (D.ns s) a ≠ a → x = .returned (.string (D.sb (D.sub (D.ns s) a (D.far D.wdB (D.ns s) a)))) ∧ Rdr w' g s (if D.nmE (D.sub (D.ns s) a (D.far D.wdB (D.ns s) a)) = 0 then D.far D.wdB (D.ns s) a else a) (D.nmE (D.sub (D.ns s) a (D.far D.wdB (D.ns s) a))) ∧ Blk w' b 43 (Nm.nc (D.nmV (D.sub (D.ns s) a (D.far D.wdB (D.ns s) a))))) := by
  have hlen := D.ns_len s
  have h256 := ns_lt s
  have cW := while_word s g a 0 w h ha hs
  have cF := fun W e (f : Nat) (z : Int) (hz : z = f) (hW : Rdr W g s e 0) => fail_any s g e 0 a f W hW z hz
  obtain ⟨l, hl⟩ : ∃ l, D.ns s = l := ⟨_, rfl⟩
  rw [hl] at cW hlen h256 ⊢
  rw [show D.wf D.wdB l a 0 = D.far D.wdB l a from if_pos rfl] at cW
  obtain ⟨K, hK0⟩ : ∃ K, D.far D.wdB l a = K := ⟨_, rfl⟩
  have hK1 : a ≤ K := hK0 ▸ D.far_ge _ _ _
  have hK2 : K ≤ l.length := hK0 ▸ D.far_le (by rw [hlen]; exact ha)
  rw [hK0] at cW ⊢
  have CW := Lib.hid cW
  have CF := Lib.hid cF
  have c1 := h.c1
  clear cW cF h hl hK0
  by_cases hq0 : K = a
  · have key : Calls Tryz.prog 168 #[vr g, .func (.func 169) #[] #[vr b]] w fun x w' => x = .returned (.string ⟨#[]⟩) ∧ Rdr w' g s a 3 ∧ Fr (· = g) w w' := by
      subst hq0
      rw [sub_nil] at CW
      obtain ⟨u, hu⟩ : ∃ u : ByteArray, u = ⟨#[]⟩ := ⟨_, rfl⟩
      have tt : (u.toList == []) = true := by rw [hu, ByteArray.toList_eq]; rfl
      have CW' : Hid (Calls Tryz.prog 84 #[vr g, .func (.func 177) #[] #[]] w fun x w' => x = .returned (.string u) ∧ Rdr w' g s K 0 ∧ Fr (· = g) w w') := by rw [hu]; exact CW
      clear CW hu
      go_enter Tryz.func168, Tryz.ntmps168
      go_wp2_with (first
        | (go_at_call 84; (with_reducible refine CW'.out.mono ?_); rintro y w1 ⟨rfl, h1_, f1_⟩; have HR1 := Lib.hid h1_; have HF1 := Lib.hid f1_; clear h1_ f1_)
        | (go_at_call 39; (with_reducible refine (CF.out _ K 3 3 rfl HR1.out).mono ?_); rintro y w2 ⟨rfl, h2, f2⟩))
      go_ret
      exact ⟨rfl, h2, HF1.out.step f2⟩
    exact key.mono fun x w' ⟨e, h2, f1⟩ => ⟨f1.mono (fun i _ e => Or.inl e), fun _ => ⟨e, h2, f1.blk hB (Ne.symm hgb)⟩, fun hne => absurd hq0 hne⟩
  · have hq1 : a < K := by omega
    have tt : ((D.sb (D.sub l a K)).toList == []) = false := by
      have := txt_eq (D.sb (D.sub l a K)) ⟨#[]⟩
      rw [D.ns_sb (sub_lt h256 a K)] at this
      rw [show (⟨#[]⟩ : ByteArray).toList = [] by rw [ByteArray.toList_eq]] at this
      exact this.trans (decide_eq_false (sub_ne hq1 hK2))
    have hns : D.ns (D.sb (D.sub l a K)) = D.sub l a K := D.ns_sb (sub_lt h256 a K)
    have cC := Lib.hid (fun W (hf : Fr (· = g) w W) => nameC b x0 (D.sb (D.sub l a K)) W (hf.blk hB (Ne.symm hgb)))
    rw [hns] at cC
    obtain ⟨F, hF⟩ : ∃ F, D.nmE (D.sub l a K) = F := ⟨_, rfl⟩
    rw [hF] at cC ⊢
    obtain ⟨E, hE⟩ : ∃ E, (if F = 0 then K else a) = E := ⟨_, rfl⟩
    rw [hE]
    have HE : Kept ((if F = 0 then K else a) = E) := ⟨hE⟩
    clear hE
    have key : Calls Tryz.prog 168 #[vr g, .func (.func 169) #[] #[vr b]] w fun x w' => x = .returned (.string (D.sb (D.sub l a K))) ∧ Kept (Rdr w' g s E F) ∧ Fr (fun i => i = g ∨ i = b) w w' ∧ Blk w' b 43 (Nm.nc (D.nmV (D.sub l a K))) := by
      clear hns hF hq0 hq1
      by_cases h0 : F = 0
      · subst h0
        go_enter Tryz.func168, Tryz.ntmps168
        go_wp2_with (first
          | (go_at_call 84; (with_reducible refine CW.out.mono ?_); rintro y w1 ⟨rfl, h1_, f1_⟩; have HR1 := Lib.hid h1_; have HF1 := Lib.hid f1_; clear h1_ f1_)
          | (go_at_call 169; (with_reducible refine (cC.out _ HF1.out).mono ?_); rintro y w2 ⟨rfl, B2, f2⟩))
        go_ret
        exact ⟨rfl, ⟨by rw [← HE.out]; exact HR1.out.fr f2 hgb⟩, (HF1.out.mono (S' := fun i => i = g ∨ i = b) (fun i _ e => Or.inl e)).step (f2.mono fun i _ e => Or.inr e), B2⟩
      · have hne : ((F : Int) != 0) = true := by simp; omega
        have H0 : Kept (¬ F = 0) := ⟨h0⟩
        clear h0
        go_enter Tryz.func168, Tryz.ntmps168
        go_wp2_with (first
          | (go_at_call 84; (with_reducible refine CW.out.mono ?_); rintro y w1 ⟨rfl, h1_, f1_⟩; have HR1 := Lib.hid h1_; have HF1 := Lib.hid f1_; clear h1_ f1_)
          | (go_at_call 169; (with_reducible refine (cC.out _ HF1.out).mono ?_); rintro y w2 ⟨rfl, B2, f2⟩; have R2 := HR1.out.fr f2 hgb; have HR2 := Lib.hid R2; clear R2)
          | (go_at_call 39; (with_reducible refine (CF.out _ K F F rfl HR2.out).mono ?_); rintro y w3 ⟨rfl, h3, f3⟩))
        go_ret
        exact ⟨rfl, ⟨by rw [← HE.out, if_neg H0.out]; exact h3⟩, ((HF1.out.mono (S' := fun i => i = g ∨ i = b) (fun i _ e => Or.inl e)).step (f2.mono fun i _ e => Or.inr e)).step (f3.mono fun i _ e => Or.inl e), f3.blk B2 (Ne.symm hgb)⟩
    exact key.mono fun x w' ⟨e, h2, f1, h3⟩ => ⟨f1, fun hh => absurd hh hq0, fun _ => ⟨e, h2.out, h3⟩⟩
set_option maxHeartbeats 4000000 in
theorem word_kind (s : ByteArray) (g a : Nat) (b p d z0 : Nat) (v : Bool) (w : World) (h : Rdr w g s a 0) (ha : a ≤ s.size) (hs : s.size ≤ 1000) (hB : Blk w b 3 #[.int .i64 (z0 : Nat)]) (hP : Blk w p 99 #[.int .i64 (d : Nat), .bool v]) (hK : Knd w) (hgb : g ≠ b) (hgp : g ≠ p) (hgk : g ≠ 0) (hd : d ≤ 3) :
    Calls Tryz.prog 168 #[vr g, .func (.func 172) #[] #[vr b, vr p]] w fun x w' => Fr (fun i => i = g ∨ i = b) w w' ∧
      (D.far D.wdB (D.ns s) a = a → x = .returned (.string ⟨#[]⟩) ∧ Rdr w' g s a 3 ∧ Blk w' b 3 #[.int .i64 (z0 : Nat)]) ∧
      (D.far D.wdB (D.ns s) a ≠ a → x = .returned (.string (D.sb (D.sub (D.ns s) a (D.far D.wdB (D.ns s) a)))) ∧ Rdr w' g s (if D.kdE d (D.kndT (D.sub (D.ns s) a (D.far D.wdB (D.ns s) a))) = 0 then D.far D.wdB (D.ns s) a else a) (D.kdE d (D.kndT (D.sub (D.ns s) a (D.far D.wdB (D.ns s) a)))) ∧ Blk w' b 3 #[.int .i64 (D.kndT (D.sub (D.ns s) a (D.far D.wdB (D.ns s) a)) : Nat)]) := by
  have hlen := D.ns_len s
  have h256 := ns_lt s
  have cW := while_word s g a 0 w h ha hs
  have cF := fun W e (f : Nat) (z : Int) (hz : z = f) (hW : Rdr W g s e 0) => fail_any s g e 0 a f W hW z hz
  obtain ⟨l, hl⟩ : ∃ l, D.ns s = l := ⟨_, rfl⟩
  rw [hl] at cW hlen h256 ⊢
  rw [show D.wf D.wdB l a 0 = D.far D.wdB l a from if_pos rfl] at cW
  obtain ⟨K, hK0⟩ : ∃ K, D.far D.wdB l a = K := ⟨_, rfl⟩
  have hK1 : a ≤ K := hK0 ▸ D.far_ge _ _ _
  have hK2 : K ≤ l.length := hK0 ▸ D.far_le (by rw [hlen]; exact ha)
  rw [hK0] at cW ⊢
  have CW := Lib.hid cW
  have CF := Lib.hid cF
  have c1 := h.c1
  clear cW cF h hl hK0
  by_cases hq0 : K = a
  · have key : Calls Tryz.prog 168 #[vr g, .func (.func 172) #[] #[vr b, vr p]] w fun x w' => x = .returned (.string ⟨#[]⟩) ∧ Rdr w' g s a 3 ∧ Fr (· = g) w w' := by
      subst hq0
      rw [sub_nil] at CW
      obtain ⟨u, hu⟩ : ∃ u : ByteArray, u = ⟨#[]⟩ := ⟨_, rfl⟩
      have tt : (u.toList == []) = true := by rw [hu, ByteArray.toList_eq]; rfl
      have CW' : Hid (Calls Tryz.prog 84 #[vr g, .func (.func 177) #[] #[]] w fun x w' => x = .returned (.string u) ∧ Rdr w' g s K 0 ∧ Fr (· = g) w w') := by rw [hu]; exact CW
      clear CW hu
      go_enter Tryz.func168, Tryz.ntmps168
      go_wp2_with (first
        | (go_at_call 84; (with_reducible refine CW'.out.mono ?_); rintro y w1 ⟨rfl, h1_, f1_⟩; have HR1 := Lib.hid h1_; have HF1 := Lib.hid f1_; clear h1_ f1_)
        | (go_at_call 39; (with_reducible refine (CF.out _ K 3 3 rfl HR1.out).mono ?_); rintro y w2 ⟨rfl, h2, f2⟩))
      go_ret
      exact ⟨rfl, h2, HF1.out.step f2⟩
    exact key.mono fun x w' ⟨e, h2, f1⟩ => ⟨f1.mono (fun i _ e => Or.inl e), fun _ => ⟨e, h2, f1.blk hB (Ne.symm hgb)⟩, fun hne => absurd hq0 hne⟩
  · have hq1 : a < K := by omega
    have tt : ((D.sb (D.sub l a K)).toList == []) = false := by
      have := txt_eq (D.sb (D.sub l a K)) ⟨#[]⟩
      rw [D.ns_sb (sub_lt h256 a K)] at this
      rw [show (⟨#[]⟩ : ByteArray).toList = [] by rw [ByteArray.toList_eq]] at this
      exact this.trans (decide_eq_false (sub_ne hq1 hK2))
    have hns : D.ns (D.sb (D.sub l a K)) = D.sub l a K := D.ns_sb (sub_lt h256 a K)
    have cC := Lib.hid (fun W (hf : Fr (· = g) w W) => kindC b p d z0 v (D.sb (D.sub l a K)) W (hf.blk hB (Ne.symm hgb)) (hf.blk hP (Ne.symm hgp)) (by rw [D.ns_sb (sub_lt h256 a K)]; exact sub_ne (by omega) hK2) ⟨hf.cell hK.c0 (Ne.symm hgk), hf.cell hK.c1 (Ne.symm hgk), hf.cell hK.c2 (Ne.symm hgk), hf.cell hK.c3 (Ne.symm hgk), hf.cell hK.c4 (Ne.symm hgk)⟩ hd)
    rw [hns] at cC
    obtain ⟨F, hF⟩ : ∃ F, D.kdE d (D.kndT (D.sub l a K)) = F := ⟨_, rfl⟩
    rw [hF] at cC ⊢
    obtain ⟨E, hE⟩ : ∃ E, (if F = 0 then K else a) = E := ⟨_, rfl⟩
    rw [hE]
    have HE : Kept ((if F = 0 then K else a) = E) := ⟨hE⟩
    clear hE
    have key : Calls Tryz.prog 168 #[vr g, .func (.func 172) #[] #[vr b, vr p]] w fun x w' => x = .returned (.string (D.sb (D.sub l a K))) ∧ Kept (Rdr w' g s E F) ∧ Fr (fun i => i = g ∨ i = b) w w' ∧ Blk w' b 3 #[.int .i64 (D.kndT (D.sub l a K) : Nat)] := by
      clear hns hF hq0 hq1
      by_cases h0 : F = 0
      · subst h0
        go_enter Tryz.func168, Tryz.ntmps168
        go_wp2_with (first
          | (go_at_call 84; (with_reducible refine CW.out.mono ?_); rintro y w1 ⟨rfl, h1_, f1_⟩; have HR1 := Lib.hid h1_; have HF1 := Lib.hid f1_; clear h1_ f1_)
          | (go_at_call 172; (with_reducible refine (cC.out _ HF1.out).mono ?_); rintro y w2 ⟨rfl, B2, f2⟩))
        go_ret
        exact ⟨rfl, ⟨by rw [← HE.out]; exact HR1.out.fr f2 hgb⟩, (HF1.out.mono (S' := fun i => i = g ∨ i = b) (fun i _ e => Or.inl e)).step (f2.mono fun i _ e => Or.inr e), B2⟩
      · have hne : ((F : Int) != 0) = true := by simp; omega
        have H0 : Kept (¬ F = 0) := ⟨h0⟩
        clear h0
        go_enter Tryz.func168, Tryz.ntmps168
        go_wp2_with (first
          | (go_at_call 84; (with_reducible refine CW.out.mono ?_); rintro y w1 ⟨rfl, h1_, f1_⟩; have HR1 := Lib.hid h1_; have HF1 := Lib.hid f1_; clear h1_ f1_)
          | (go_at_call 172; (with_reducible refine (cC.out _ HF1.out).mono ?_); rintro y w2 ⟨rfl, B2, f2⟩; have R2 := HR1.out.fr f2 hgb; have HR2 := Lib.hid R2; clear R2)
          | (go_at_call 39; (with_reducible refine (CF.out _ K F F rfl HR2.out).mono ?_); rintro y w3 ⟨rfl, h3, f3⟩))
        go_ret
        exact ⟨rfl, ⟨by rw [← HE.out, if_neg H0.out]; exact h3⟩, ((HF1.out.mono (S' := fun i => i = g ∨ i = b) (fun i _ e => Or.inl e)).step (f2.mono fun i _ e => Or.inr e)).step (f3.mono fun i _ e => Or.inl e), f3.blk B2 (Ne.symm hgb)⟩
    exact key.mono fun x w' ⟨e, h2, f1, h3⟩ => ⟨f1, fun hh => absurd hh hq0, fun _ => ⟨e, h2.out, h3⟩⟩
set_option maxHeartbeats 4000000 in
theorem word_case (s : ByteArray) (g a : Nat) (q r k : Nat) (A : Option Addr) (n c : Nat) (cs : List (List Nat × Value)) (w : World) (h : Rdr w g s a 0) (ha : a ≤ s.size) (hs : s.size ≤ 1000) (hq : w.cell? ⟨q, 0, none⟩ = some (.int .i64 (k : Nat))) (hr : w.cell? ⟨r, 0, none⟩ = some (.slice A n c)) (hR : Rw 2 w A n (ccs cs)) (hb : D.B8 (cs.map (·.1))) (h1 : ∀ x ∈ cs, x.2.oneCell' = true) (hn : n ≤ 1000000) (hE : Env w) (hgq : g ≠ q) (hgr : g ≠ r) (hgA : ∀ ad, A = some ad → ad.block ≠ g) (hgw : g ≠ 3) :
    Calls Tryz.prog 168 #[vr g, .func (.func 174) #[] #[vr q, vr r]] w fun x w' => Fr (fun i => i = g) w w' ∧
      (D.far D.wdB (D.ns s) a = a → x = .returned (.string ⟨#[]⟩) ∧ Rdr w' g s a 3 ∧ True) ∧
      (D.far D.wdB (D.ns s) a ≠ a → x = .returned (.string (D.sb (D.sub (D.ns s) a (D.far D.wdB (D.ns s) a)))) ∧ Rdr w' g s (if D.lgE k (D.sub (D.ns s) a (D.far D.wdB (D.ns s) a)) (cs.map (·.1)) = 0 then D.far D.wdB (D.ns s) a else a) (D.lgE k (D.sub (D.ns s) a (D.far D.wdB (D.ns s) a)) (cs.map (·.1))) ∧ True) := by
  have hlen := D.ns_len s
  have h256 := ns_lt s
  have cW := while_word s g a 0 w h ha hs
  have cF := fun W e (f : Nat) (z : Int) (hz : z = f) (hW : Rdr W g s e 0) => fail_any s g e 0 a f W hW z hz
  obtain ⟨l, hl⟩ : ∃ l, D.ns s = l := ⟨_, rfl⟩
  rw [hl] at cW hlen h256 ⊢
  rw [show D.wf D.wdB l a 0 = D.far D.wdB l a from if_pos rfl] at cW
  obtain ⟨K, hK0⟩ : ∃ K, D.far D.wdB l a = K := ⟨_, rfl⟩
  have hK1 : a ≤ K := hK0 ▸ D.far_ge _ _ _
  have hK2 : K ≤ l.length := hK0 ▸ D.far_le (by rw [hlen]; exact ha)
  rw [hK0] at cW ⊢
  have CW := Lib.hid cW
  have CF := Lib.hid cF
  have c1 := h.c1
  clear cW cF h hl hK0
  by_cases hq0 : K = a
  · have key : Calls Tryz.prog 168 #[vr g, .func (.func 174) #[] #[vr q, vr r]] w fun x w' => x = .returned (.string ⟨#[]⟩) ∧ Rdr w' g s a 3 ∧ Fr (· = g) w w' := by
      subst hq0
      rw [sub_nil] at CW
      obtain ⟨u, hu⟩ : ∃ u : ByteArray, u = ⟨#[]⟩ := ⟨_, rfl⟩
      have tt : (u.toList == []) = true := by rw [hu, ByteArray.toList_eq]; rfl
      have CW' : Hid (Calls Tryz.prog 84 #[vr g, .func (.func 177) #[] #[]] w fun x w' => x = .returned (.string u) ∧ Rdr w' g s K 0 ∧ Fr (· = g) w w') := by rw [hu]; exact CW
      clear CW hu
      go_enter Tryz.func168, Tryz.ntmps168
      go_wp2_with (first
        | (go_at_call 84; (with_reducible refine CW'.out.mono ?_); rintro y w1 ⟨rfl, h1_, f1_⟩; have HR1 := Lib.hid h1_; have HF1 := Lib.hid f1_; clear h1_ f1_)
        | (go_at_call 39; (with_reducible refine (CF.out _ K 3 3 rfl HR1.out).mono ?_); rintro y w2 ⟨rfl, h2, f2⟩))
      go_ret
      exact ⟨rfl, h2, HF1.out.step f2⟩
    exact key.mono fun x w' ⟨e, h2, f1⟩ => ⟨f1.mono (fun i _ e => e), fun _ => ⟨e, h2, trivial⟩, fun hne => absurd hq0 hne⟩
  · have hq1 : a < K := by omega
    have tt : ((D.sb (D.sub l a K)).toList == []) = false := by
      have := txt_eq (D.sb (D.sub l a K)) ⟨#[]⟩
      rw [D.ns_sb (sub_lt h256 a K)] at this
      rw [show (⟨#[]⟩ : ByteArray).toList = [] by rw [ByteArray.toList_eq]] at this
      exact this.trans (decide_eq_false (sub_ne hq1 hK2))
    have hns : D.ns (D.sb (D.sub l a K)) = D.sub l a K := D.ns_sb (sub_lt h256 a K)
    have cC := Lib.hid (fun W (hf : Fr (· = g) w W) => caseC q r k A n c cs (D.sb (D.sub l a K)) W (hf.cell hq (Ne.symm hgq)) (hf.cell hr (Ne.symm hgr)) (rw_fr hR hf fun ad e => hgA ad e) hb h1 hn ⟨hf.cell hE.c0 (Ne.symm hgw), hf.cell hE.c1 (Ne.symm hgw), hf.cell hE.c2 (Ne.symm hgw), hf.cell hE.c3 (Ne.symm hgw), hf.cell hE.c4 (Ne.symm hgw), hf.cell hE.c5 (Ne.symm hgw)⟩)
    rw [hns] at cC
    obtain ⟨F, hF⟩ : ∃ F, D.lgE k (D.sub l a K) (cs.map (·.1)) = F := ⟨_, rfl⟩
    rw [hF] at cC ⊢
    obtain ⟨E, hE⟩ : ∃ E, (if F = 0 then K else a) = E := ⟨_, rfl⟩
    rw [hE]
    have HE : Kept ((if F = 0 then K else a) = E) := ⟨hE⟩
    clear hE
    have key : Calls Tryz.prog 168 #[vr g, .func (.func 174) #[] #[vr q, vr r]] w fun x w' => x = .returned (.string (D.sb (D.sub l a K))) ∧ Kept (Rdr w' g s E F) ∧ Fr (fun i => i = g) w w' ∧ True := by
      clear hns hF hq0 hq1
      by_cases h0 : F = 0
      · subst h0
        go_enter Tryz.func168, Tryz.ntmps168
        go_wp2_with (first
          | (go_at_call 84; (with_reducible refine CW.out.mono ?_); rintro y w1 ⟨rfl, h1_, f1_⟩; have HR1 := Lib.hid h1_; have HF1 := Lib.hid f1_; clear h1_ f1_)
          | (go_at_call 174; (with_reducible refine (cC.out _ HF1.out).mono ?_); rintro y w2 ⟨rfl, b2⟩))
        go_ret
        exact ⟨rfl, ⟨by rw [← HE.out]; exact HR1.out.on b2⟩, (HF1.out.mono (S' := fun i => i = g) (fun i _ e => e)).step (Fr.of_below b2 (Nat.le_refl _)), trivial⟩
      · have hne : ((F : Int) != 0) = true := by simp; omega
        have H0 : Kept (¬ F = 0) := ⟨h0⟩
        clear h0
        go_enter Tryz.func168, Tryz.ntmps168
        go_wp2_with (first
          | (go_at_call 84; (with_reducible refine CW.out.mono ?_); rintro y w1 ⟨rfl, h1_, f1_⟩; have HR1 := Lib.hid h1_; have HF1 := Lib.hid f1_; clear h1_ f1_)
          | (go_at_call 174; (with_reducible refine (cC.out _ HF1.out).mono ?_); rintro y w2 ⟨rfl, b2⟩; have R2 := HR1.out.on b2; have HR2 := Lib.hid R2; clear R2)
          | (go_at_call 39; (with_reducible refine (CF.out _ K F F rfl HR2.out).mono ?_); rintro y w3 ⟨rfl, h3, f3⟩))
        go_ret
        exact ⟨rfl, ⟨by rw [← HE.out, if_neg H0.out]; exact h3⟩, ((HF1.out.mono (S' := fun i => i = g) (fun i _ e => e)).step (Fr.of_below b2 (Nat.le_refl _))).step (f3.mono fun i _ e => e), trivial⟩
    exact key.mono fun x w' ⟨e, h2, f1, h3⟩ => ⟨f1, fun hh => absurd hh hq0, fun _ => ⟨e, h2.out, h3⟩⟩
end Go.Proofs.YtohhfcfnclafdaaGreatDoor
set_option linter.unusedVariables false
set_option linter.unusedSimpArgs false
set_option maxRecDepth 100000
namespace Go.Proofs.YtohhfcfnclafdaaGreatDoor
open Go.RowKit
attribute [local go_sem ↓] Go.wp_at_zero Go.wp_at_succ Nm.ld_a Nm.ld_n Nm.st_a Nm.st_n Nm.lv_a Nm.lv_n
attribute [local go_sem] Nm.run_ld_a Nm.run_ld_n Nm.run_lv_a Nm.run_lv_n Nm.rd_new Nm.rd_old Nm.rd_drew Nm.rd_drewN Nm.st_z

theorem blanks_any (s : ByteArray) (g a e : Nat) (w : World) (h : Rdr w g s a e) (ha : a ≤ s.size) (hs : s.size ≤ 1000) :
    Calls Tryz.prog 171 #[vr g] w fun x w' => x = .returned (.tuple #[]) ∧ Rdr w' g s (D.wf (· == 32) (D.ns s) a e) e ∧ Fr (· = g) w w' := by
  have cW := Lib.hid (while_blank s g a e w h ha hs)
  obtain ⟨Q, hQ⟩ : ∃ Q, D.wf (· == 32) (D.ns s) a e = Q := ⟨_, rfl⟩
  obtain ⟨u, hu⟩ : ∃ u, D.sb (D.sub (D.ns s) a Q) = u := ⟨_, rfl⟩
  rw [hQ] at cW ⊢
  rw [hu] at cW
  clear h hQ hu
  go_enter Tryz.func171, Tryz.ntmps171
  go_wp2_with (go_at_call 84; (with_reducible refine cW.out.mono ?_); rintro y w1 ⟨rfl, h1, f1⟩)
  go_end0
  exact ⟨rfl, h1, f1⟩
theorem D.tk_le {l : List Nat} {c a e : Nat} (hc : c ≠ 0) (h : a ≤ l.length) : (D.tk l c a e).1 ≤ l.length := by
  unfold D.tk
  split
  · rename_i hn
    show a + 1 ≤ l.length
    unfold D.nb at hn
    split at hn
    · by_cases hk : a < l.length
      · omega
      · rw [List.getD, List.getElem?_eq_none (by omega)] at hn
        exact absurd hn.symm hc
    · exact absurd hn.symm hc
  · unfold D.fl
    split <;> exact h
theorem D.tk_dead {l : List Nat} {c a e : Nat} (hc : c ≠ 0) (h : e ≠ 0) : D.tk l c a e = (a, e) := by
  unfold D.tk
  rw [D.nb_dead h, if_neg (Ne.symm hc), D.fl, if_neg h]
theorem D.tk_live {l : List Nat} {c a : Nat} (h : l[a]? = some c) : D.tk l c a 0 = (a + 1, 0) := by
  unfold D.tk
  rw [D.nb_live, List.getD, h]
  exact if_pos rfl
theorem D.tk_not {l : List Nat} {c a : Nat} (hc : c ≠ 0) (h : l[a]? ≠ some c) : D.tk l c a 0 = (a, 3) := by
  unfold D.tk
  rw [D.nb_live, List.getD]
  rw [if_neg ?_]
  · rfl
  · cases hx : l[a]? with
    | none => exact Ne.symm hc
    | some y => rw [hx] at h; exact fun e => h (by rw [← e]; rfl)
theorem D.wf_dead {p : Nat → Bool} {l : List Nat} {a e : Nat} (h : e ≠ 0) : D.wf p l a e = a := if_neg h
theorem D.wf_live {p : Nat → Bool} {l : List Nat} {a : Nat} : D.wf p l a 0 = D.far p l a := if_pos rfl
/-- Behind a comma, and the blanks behind it. -/
def D.cm (l : List Nat) (a e : Nat) : Nat × Nat := (D.wf (· == 32) l (D.tk l 44 a e).1 (D.tk l 44 a e).2, (D.tk l 44 a e).2)
theorem comma_any (s : ByteArray) (g a e : Nat) (w : World) (h : Rdr w g s a e) (ha : a ≤ s.size) (hs : s.size ≤ 1000) :
    Calls Tryz.prog 127 #[vr g] w fun x w' => x = .returned (.tuple #[]) ∧ Rdr w' g s (D.cm (D.ns s) a e).1 (D.cm (D.ns s) a e).2 ∧ Fr (· = g) w w' := by
  have cT := Lib.hid (take_any s g a e 44 w h ha hs (by decide) 44 rfl)
  have hle := D.tk_le (l := D.ns s) (c := 44) (a := a) (e := e) (by decide) (by rw [D.ns_len]; exact ha)
  rw [D.ns_len] at hle
  unfold D.cm
  have cB := fun W (hW : Rdr W g s (D.tk (D.ns s) 44 a e).1 (D.tk (D.ns s) 44 a e).2) => blanks_any s g _ _ W hW hle hs
  obtain ⟨p, hp⟩ : ∃ p, D.tk (D.ns s) 44 a e = p := ⟨_, rfl⟩
  rw [hp] at cT cB ⊢
  obtain ⟨b, f⟩ := p
  simp only at cT cB ⊢
  have CB := Lib.hid cB
  clear hp hle cB h
  go_enter Tryz.func127, Tryz.ntmps127
  go_wp2_with (first
    | (go_at_call 82; (with_reducible refine cT.out.mono ?_); rintro y w1 ⟨rfl, h1_, f1_⟩; have HR1 := Lib.hid h1_; have HF1 := Lib.hid f1_; clear h1_ f1_)
    | (go_at_call 171; (with_reducible refine (CB.out _ HR1.out).mono ?_); rintro y w2 ⟨rfl, h2, f2⟩))
  go_end0
  exact ⟨rfl, h2, HF1.out.step f2⟩
/-- Behind a name, or a word, of which this is wrong. -/
def D.nx (a K F : Nat) : Nat × Nat := if K = a then (a, 3) else (if F = 0 then K else a, F)
/-- What a word's reader keeps of it. -/
def D.nmR (t : List Nat) : Nm.D.Nm := if t = [] then Nm.D.zero else D.nmV t
theorem sub_ex {l : List Nat} {a K : Nat} (h : K ≠ a) (h1 : a ≤ K) (h2 : K ≤ l.length) : D.sub l a K ≠ [] := sub_ne (by omega) h2
theorem rname_any (s : ByteArray) (g a : Nat) (w : World) (h : Rdr w g s a 0) (ha : a ≤ s.size) (hs : s.size ≤ 1000) :
    Calls Tryz.prog 126 #[vr g] w fun x w' => x = .returned (.agg (Nm.nc (D.nmR (D.sub (D.ns s) a (D.far D.wdB (D.ns s) a))))) ∧
      Rdr w' g s (D.nx a (D.far D.wdB (D.ns s) a) (D.nmE (D.sub (D.ns s) a (D.far D.wdB (D.ns s) a)))).1 (D.nx a (D.far D.wdB (D.ns s) a) (D.nmE (D.sub (D.ns s) a (D.far D.wdB (D.ns s) a)))).2 ∧ Fr (· = g) w w' := by
  have hlen := D.ns_len s
  have hgl := h.lt
  have cW := word_name s g a w.heap.size Nm.D.zero (w.alloc (.cells (Nm.nc Nm.D.zero) 43)) (h.on (below_alloc_ _ _)) ha hs (Blk.new w _ _) (by omega)
  have hF : Fr (· = g) w (w.alloc (.cells (Nm.nc Nm.D.zero) 43)) := (Fr.refl _ _).alloc _
  have hsz : (w.alloc (.cells (Nm.nc Nm.D.zero) 43)).heap.size = w.heap.size + 1 := by simp
  obtain ⟨l, hl⟩ : ∃ l, D.ns s = l := ⟨_, rfl⟩
  rw [hl] at cW hlen ⊢
  obtain ⟨K, hK⟩ : ∃ K, D.far D.wdB l a = K := ⟨_, rfl⟩
  have hK1 : a ≤ K := hK ▸ D.far_ge _ _ _
  have hK2 : K ≤ l.length := hK ▸ D.far_le (by rw [hlen]; exact ha)
  rw [hK] at cW ⊢
  obtain ⟨u, hu⟩ : ∃ u, u = (if K = a then (⟨#[]⟩ : ByteArray) else D.sb (D.sub l a K)) := ⟨_, rfl⟩
  have key : Calls Tryz.prog 168 #[vr g, .func (.func 169) #[] #[vr w.heap.size]] (w.alloc (.cells (Nm.nc Nm.D.zero) 43)) fun x w' => x = .returned (.string u) ∧
      Rdr w' g s (D.nx a K (D.nmE (D.sub l a K))).1 (D.nx a K (D.nmE (D.sub l a K))).2 ∧ Blk w' w.heap.size 43 (Nm.nc (D.nmR (D.sub l a K))) ∧ Fr (fun i => i = g ∨ i = w.heap.size) (w.alloc (.cells (Nm.nc Nm.D.zero) 43)) w' := by
    refine cW.mono fun x w' ⟨f, p, q⟩ => ?_
    by_cases hq : K = a
    · obtain ⟨e, h1, h2⟩ := p hq
      refine ⟨by rw [e, hu, if_pos hq], ?_, ?_, f⟩
      · rw [D.nx, if_pos hq]; exact h1
      · subst hq; rw [sub_nil, D.nmR, if_pos rfl]; exact h2
    · obtain ⟨e, h1, h2⟩ := q hq
      refine ⟨by rw [e, hu, if_neg hq], ?_, ?_, f⟩
      · rw [D.nx, if_neg hq]; exact h1
      · rw [D.nmR, if_neg (sub_ex hq hK1 hK2)]; exact h2
  obtain ⟨p, hp⟩ : ∃ p, D.nx a K (D.nmE (D.sub l a K)) = p := ⟨_, rfl⟩
  obtain ⟨m, hm⟩ : ∃ m, D.nmR (D.sub l a K) = m := ⟨_, rfl⟩
  rw [hp, hm] at key ⊢
  obtain ⟨b, f⟩ := p
  simp only at key ⊢
  rw [Nm.nc_zero] at key hF hsz
  have KEY := Lib.hid key
  have HF := Lib.hid hF
  clear key hF hp hm hu cW hK hl hK1 hK2 hlen h
  go_enter Tryz.func126, Tryz.ntmps126
  go_wp2_with (go_at_call 168; (with_reducible refine KEY.out.mono ?_); rintro y w1 ⟨rfl, h1_, b1_, f1_⟩; have HR1 := Lib.hid h1_; have HF1 := Lib.hid f1_; have hrd := Nm.rd_blk b1_; obtain ⟨w9, hst, B9, hg9⟩ := Nm.st_blk (.inr rfl) b1_ (Nm.nc_size m) m; have hrd9 := Nm.rd_blk B9; have hg := Lib.hid hg9; clear h1_ f1_ hg9)
  have hne : g ≠ w.heap.size := by omega
  refine bodyPost_ret (v := .agg (Nm.nc m)) (by have h1 := Nm.lv_of hrd9; simp only [results, Tryz.results126]; simp [Sem.run_bind, Result.andThen, asAddr, h1]) rfl ?_
  exact ⟨rfl, HR1.out.fr (fr_grown hg.out) hne, HF.out.trans (HF1.out.step ((fr_grown hg.out).mono fun i _ e => Or.inr e)) fun i hi e => by rcases e with e | e; exact e; omega⟩
theorem rkind_any (s : ByteArray) (g a d : Nat) (v : Bool) (w : World) (h : Rdr w g s a 0) (ha : a ≤ s.size) (hs : s.size ≤ 1000) (hK : Knd w) (hgk : g ≠ 0) (hd : d ≤ 3) :
    Calls Tryz.prog 128 #[vr g, .agg #[.int .i64 (d : Nat), .bool v]] w fun x w' => x = .returned (.int .i64 (D.kndT (D.sub (D.ns s) a (D.far D.wdB (D.ns s) a)) : Nat)) ∧
      Rdr w' g s (D.nx a (D.far D.wdB (D.ns s) a) (D.kdE d (D.kndT (D.sub (D.ns s) a (D.far D.wdB (D.ns s) a))))).1 (D.nx a (D.far D.wdB (D.ns s) a) (D.kdE d (D.kndT (D.sub (D.ns s) a (D.far D.wdB (D.ns s) a))))).2 ∧ Fr (· = g) w w' := by
  have hlen := D.ns_len s
  have hgl := h.lt
  obtain ⟨W, hW⟩ : ∃ W, (w.alloc (.cells #[.int .i64 (d : Nat), .bool v] 99)).alloc (.cells #[.int .i64 0] 3) = W := ⟨_, rfl⟩
  have hP : Blk W w.heap.size 99 #[.int .i64 (d : Nat), .bool v] := by rw [← hW]; exact (Blk.new w _ _).alloc _
  have hB : Blk W (w.heap.size + 1) 3 #[.int .i64 ((0 : Nat) : Int)] := by rw [← hW]; have := Blk.new (w.alloc (.cells #[.int .i64 (d : Nat), .bool v] 99)) 3 #[.int .i64 ((0 : Nat) : Int)]; simpa using this
  have hb : Below w.heap.size w W := by rw [← hW]; exact ((Below.refl _ _).alloc (Nat.le_refl _) _).alloc (by simp) _
  have hsz : W.heap.size = w.heap.size + 2 := by rw [← hW]; simp
  have cW := word_kind s g a (w.heap.size + 1) w.heap.size d 0 v W (h.on hb) ha hs hB hP (hK.on hb) (by omega) (by omega) hgk hd
  obtain ⟨l, hl⟩ : ∃ l, D.ns s = l := ⟨_, rfl⟩
  rw [hl] at cW hlen ⊢
  obtain ⟨K, hK⟩ : ∃ K, D.far D.wdB l a = K := ⟨_, rfl⟩
  have hK1 : a ≤ K := hK ▸ D.far_ge _ _ _
  rw [hK] at cW ⊢
  obtain ⟨u, hu⟩ : ∃ u, u = (if K = a then (⟨#[]⟩ : ByteArray) else D.sb (D.sub l a K)) := ⟨_, rfl⟩
  have key : Calls Tryz.prog 168 #[vr g, .func (.func 172) #[] #[vr (w.heap.size + 1), vr w.heap.size]] W fun x w' => x = .returned (.string u) ∧
      Rdr w' g s (D.nx a K (D.kdE d (D.kndT (D.sub l a K)))).1 (D.nx a K (D.kdE d (D.kndT (D.sub l a K)))).2 ∧ Blk w' (w.heap.size + 1) 3 #[.int .i64 (D.kndT (D.sub l a K) : Nat)] ∧ Fr (fun i => i = g ∨ i = w.heap.size + 1) W w' := by
    refine cW.mono fun x w' ⟨f, p, q⟩ => ?_
    by_cases hq : K = a
    · obtain ⟨e, h1, h2⟩ := p hq
      refine ⟨by rw [e, hu, if_pos hq], ?_, ?_, f⟩
      · rw [D.nx, if_pos hq]; exact h1
      · subst hq; rw [sub_nil]; exact h2
    · obtain ⟨e, h1, h2⟩ := q hq
      refine ⟨by rw [e, hu, if_neg hq], ?_, h2, f⟩
      rw [D.nx, if_neg hq]; exact h1
  obtain ⟨p, hp⟩ : ∃ p, D.nx a K (D.kdE d (D.kndT (D.sub l a K))) = p := ⟨_, rfl⟩
  obtain ⟨m, hm⟩ : ∃ m, D.kndT (D.sub l a K) = m := ⟨_, rfl⟩
  rw [hp, hm] at key
  rw [hm] at hp ⊢
  rw [hp]
  obtain ⟨b, f⟩ := p
  simp only at key ⊢
  subst hW
  have KEY := Lib.hid key
  have HB := Lib.hid hb
  clear key hb hp hm hu cW hK hl hK1 hlen h hP hB
  go_enter Tryz.func128, Tryz.ntmps128
  go_wp2_with (go_at_call 168; (with_reducible refine KEY.out.mono ?_); rintro y w1 ⟨rfl, h1_, b1_, f1_⟩; have HR1 := Lib.hid h1_; have HF1 := Lib.hid f1_; have B1 := Lib.hid b1_; have cc := b1_.c_ 0; have ff := b1_.f_; have hlt := b1_.lt; clear h1_ f1_ b1_)
  have hne : g ≠ w.heap.size + 1 := by omega
  refine bodyPost_ret (v := .int .i64 (m : Nat)) (by simp [results, Tryz.results128, go_sem, cc, ff, hlt]) rfl ?_
  have hf9 : Fr (· = w.heap.size + 1) w1 (w1.setCell ⟨w.heap.size + 1, 0, none⟩ (.int .i64 (m : Nat))) := (Fr.refl _ _).setCell _ _ fun _ => rfl
  exact ⟨rfl, HR1.out.fr hf9 hne, (Fr.of_below (S := (· = g)) HB.out (Nat.le_refl _)).trans (HF1.out.step (hf9.mono fun i _ e => Or.inr e)) fun i hi e => by rcases e with e | e; exact e; omega⟩
end Go.Proofs.YtohhfcfnclafdaaGreatDoor
set_option linter.unusedVariables false
set_option linter.unusedSimpArgs false
set_option maxRecDepth 100000
namespace Go.Proofs.YtohhfcfnclafdaaGreatDoor
open Go.RowKit

theorem Keeps.trans {F : Nat → Prop} {w w1 w2 : World} (h : Keeps F w w1) (k : Keeps F w1 w2) : Keeps F w w2 :=
  ⟨Nat.le_trans h.size k.size, fun b hb hlt => (k.same b hb (Nat.lt_of_lt_of_le hlt h.size)).trans (h.same b hb hlt)⟩
theorem Ow.ne_ {T T' : TypeId} {sz sz' base base' : Nat} {w : World} {A B : Option Addr} {n c m e : Nat} {xs ys : List Value} (h : Ow T sz base w A n c xs) (h' : Ow T' sz' base' w B m e ys) (hne : T ≠ T') : ∀ q, (Value.slice A n c).ownBlock = some q → (Value.slice B m e).ownBlock ≠ some q := by
  intro q h1 h2
  rcases h.row.2 with ⟨e1, _⟩ | ⟨g, cap, cur, e1, _, hh, _⟩
  · rw [e1] at h1; simp [Value.ownBlock] at h1
  · rcases h'.row.2 with ⟨e2, _⟩ | ⟨g', cap', cur', e2, _, hh', _⟩
    · rw [e2] at h2; simp [Value.ownBlock] at h2
    · rw [e1] at h1
      rw [e2] at h2
      have a1 : g = q := by simpa [Value.ownBlock] using h1
      have a2 : g' = q := by simpa [Value.ownBlock] using h2
      subst a1
      subst a2
      rw [hh] at hh'
      injection hh' with hh'
      injection hh' with _ ht
      exact hne ht
theorem Ow.set {T : TypeId} {sz base : Nat} {w : World} {A : Option Addr} {n c : Nat} {xs : List Value} (h : Ow T sz base w A n c xs) (p : Addr) (u : Value) (hp : p.block < base) : Ow T sz base (w.setCell p u) A n c xs :=
  h.kept (by simp) fun g hg => Below.heap_setCell w p u g (by have := (h.lt g hg).1; omega)
theorem Ms.up {F : Nat → Prop} {w : World} : ∀ (r : Nat) {v : Value} {l : List D.Nd}, Ms F w r v l → Ms F w (r + 1) v l
  | 0, v, l, h => by
    obtain ⟨A, n, c, vs, e, hc, hr, hl, hb⟩ := h
    exact ⟨A, n, c, vs, e, hc, hr, hl, fun i x a b hx => ⟨(hb i x a b hx).1, (hb i x a b hx).2.1, (hb i x a b hx).2.2.to (fun _ _ _ _ h => h) (fun _ _ h => h.elim)⟩⟩
  | r + 1, v, l, h => by
    obtain ⟨A, n, c, vs, e, hc, hr, hl, hb⟩ := h
    exact ⟨A, n, c, vs, e, hc, hr, hl, fun i x a b hx => ⟨(hb i x a b hx).1, (hb i x a b hx).2.1, (hb i x a b hx).2.2.to (fun _ _ _ _ h => h) (fun _ _ h => Ms.up r h)⟩⟩
theorem D.cas_eq {l : List Nat} {k : Nat} {nm : List Nat} {m : Nat → D.Ot} {f i K : Nat} {ws : List (List Nat)} {ks : List (List D.Nd)} (hK : D.far D.wdB l i = K) : D.cas l k nm m (f + 1) i ws ks =
    (if K = i then (if l[i]? ≠ some 125 then D.er_ i 3 else if D.othT ∉ ws then D.er_ i 13 else (⟨[.mk k [] nm ws ks], i + 1, 0⟩ : D.Ot))
    else if D.lgl k (D.sub l i K) ws ≠ 0 then D.er_ i (D.lgl k (D.sub l i K) ws)
    else if l[K]? ≠ some 123 then D.er_ K 3
    else if (m (K + 1)).e ≠ 0 then m (K + 1)
    else if l[(m (K + 1)).a]? ≠ some 125 then D.er_ (m (K + 1)).a 3
    else D.cas l k nm m f (D.far (· == 32) l ((m (K + 1)).a + 1)) (ws ++ [D.sub l i K]) (ks ++ [(m (K + 1)).l])) := by
  subst hK
  rw [D.cas]
/-- The blocks of the call's own but those of two rows. -/
def Fz (base : Nat) (a b : Option Nat) (q : Nat) : Prop := base ≤ q ∧ a ≠ some q ∧ b ≠ some q
theorem rw_one (w : World) (g : Nat) (hg : g = w.heap.size) (T : TypeId) (u : Value) : Rw 1 (w.alloc (.cells #[u] T)) (some ⟨g, 0, none⟩) 1 [u] := by
  subst hg
  exact rw_new w 1 T 1 #[u] rfl
/-- The cases' messages. -/
def Kz (r : Nat) (F : Nat → Prop) (w : World) (us : List Value) (ks : List (List D.Nd)) : Prop :=
  us.length = ks.length ∧ (∀ u ∈ us, u.oneCell' = true) ∧ ∀ (j : Nat) (u : Value) (q : List D.Nd), us[j]? = some u → ks[j]? = some q → Ms F w r u q
theorem Kz.move {r : Nat} {F F' : Nat → Prop} {w w' : World} {us : List Value} {ks : List (List D.Nd)} (h : Kz r F w us ks) (h1 : ∀ q, q < w.heap.size → F q → F' q) (k : Keeps (fun q => F q ∧ F' q) w w') : Kz r F' w' us ks :=
  ⟨h.1, h.2.1, fun j u q hu hq => (((h.2.2 j u q hu hq).weaken (F' := fun q => F q ∧ F' q) fun b hb hF => ⟨hF, h1 b hb hF⟩).keep k).weaken fun _ _ hF => hF.2⟩
theorem Kz.snoc {r : Nat} {F : Nat → Prop} {w : World} {us : List Value} {ks : List (List D.Nd)} {v : Value} {x : List D.Nd} (h : Kz r F w us ks) (h1 : v.oneCell' = true) (hv : Ms F w r v x) : Kz r F w (us ++ [v]) (ks ++ [x]) := by
  refine ⟨by simp [h.1], ?_, ?_⟩
  · intro u hu
    rcases List.mem_append.1 hu with hu | hu
    · exact h.2.1 u hu
    · simp at hu; rw [hu]; exact h1
  · intro j u q hu hq
    by_cases hj : j < us.length
    · rw [List.getElem?_append_left hj] at hu
      rw [List.getElem?_append_left (by rw [← h.1]; exact hj)] at hq
      exact h.2.2 j u q hu hq
    · have hj' := (List.getElem?_eq_some_iff.1 hu).1
      simp at hj'
      obtain rfl : j = us.length := by omega
      rw [List.getElem?_append_right (Nat.le_refl _)] at hu
      rw [List.getElem?_append_right (by rw [h.1]; exact Nat.le_refl _), h.1] at hq
      simp at hu hq
      subst hu hq
      exact hv
/-- A choice that is being read. -/
structure Cz (r base g : Nat) (w : World) (k : Nat) (nm : List Nat) (A : Option Addr) (n c : Nat) (B : Option Addr) (m e : Nat) (ws : List (List Nat)) (ks : List (List D.Nd)) : Prop where
  blk : Blk w g 130 #[.int .i64 (k : Nat), .string ⟨#[]⟩, .string (D.sb nm), .slice A n c, .slice B m e]
  low : g < base
  wds : Ow 9 1 base w A n c (strs ws)
  kds : ∃ us, Ow 31 1 base w B m e us ∧ Kz r (Fz base (Value.slice A n c).ownBlock (Value.slice B m e).ownBlock) w us ks
  b8 : D.B8 ws
section
variable {r base g k n c m e : Nat} {w w' : World} {nm : List Nat} {A B : Option Addr} {ws : List (List Nat)} {ks : List (List D.Nd)}
theorem Cz.on (h : Cz r base g w k nm A n c B m e ws ks) (hb : Below w.heap.size w w') : Cz r base g w' k nm A n c B m e ws ks := by
  obtain ⟨us, ho, hk⟩ := h.kds
  exact ⟨h.blk.on hb, h.low, h.wds.on hb, ⟨us, ho.on hb, hk.move (fun _ _ h => h) (keeps_below hb)⟩, h.b8⟩
/-- One word more. -/
theorem Cz.word {A' : Option Addr} {c' : Nat} {t : List Nat} (h : Cz r base g w k nm A n c B m e ws ks) (hg : w.grownBy w' (Value.slice A n c).ownBlock)
    (hor : (Value.slice A' (n + 1) c').ownBlock = (Value.slice A n c).ownBlock ∨ (Value.slice A' (n + 1) c').ownBlock = some w.heap.size)
    (ho : Ow 9 1 base w' A' (n + 1) c' (strs ws ++ strs [t])) (ht : ∀ b ∈ t, b < 256) : Cz r base g (w'.setCell ⟨g, 3, none⟩ (.slice A' (n + 1) c')) k nm A' (n + 1) c' B m e (ws ++ [t]) ks := by
  obtain ⟨us, hu, hk⟩ := h.kds
  have hne : (Value.slice A n c).ownBlock ≠ some g := fun e => by have := (h.wds.lt g e).1; have := h.low; omega
  refine ⟨?_, h.low, ?_, ⟨us, ?_, ?_⟩, ?_⟩
  · exact ((h.blk.grown hg (Ne.symm hne)).put 3 (.slice A' (n + 1) c'))
  · rw [strs_app]
    exact ho.set _ _ h.low
  · exact (hu.kept hg.size fun q hq => hg.block q (hu.lt q hq).2 (fun e => h.wds.ne_ hu (by decide) q e.symm hq)).set _ _ h.low
  · refine hk.move (fun q hq hF => ⟨hF.1, ?_, hF.2.2⟩) ?_
    · rcases hor with e | e
      · rw [e]; exact hF.2.1
      · rw [e]; intro h; injection h with h; omega
    · exact Keeps.trans (keeps_grown hg fun q hq => hq.1.2.1) (keeps_setCell _ _ _ fun q hq => by have := hq.1.1; have := h.low; simp; omega)
  · intro x hx
    rcases List.mem_append.1 hx with hx | hx
    · exact h.b8 x hx
    · simp at hx; rw [hx]; exact ht
/-- A case's message, brought to where it is appended. -/
theorem Cz.kid {w1 w2 W w3 W5 : World} {A5 : Option Addr} {n5 c5 : Nat} {u v : Value} {x : List D.Nd} (h : Cz r base g w1 k nm A n c B m e ws ks) (hv : Ms (fun b => w1.heap.size ≤ b) w2 r v x) (b : Below w2.heap.size w2 W)
    (hg : W.grownBy w3 (Value.slice A n c).ownBlock) (hor : (Value.slice A5 n5 c5).ownBlock = (Value.slice A n c).ownBlock ∨ (Value.slice A5 n5 c5).ownBlock = some W.heap.size) (b' : Below w3.heap.size (w3.setCell ⟨g, 3, none⟩ u) W5) :
    Ms (Fz base (Value.slice A5 n5 c5).ownBlock (Value.slice B m e).ownBlock) W5 r v x := by
  obtain ⟨us, hu, _⟩ := h.kds
  have hbase := h.wds.base
  have h1 := hv.weaken (F' := fun q => Fz base (Value.slice A5 n5 c5).ownBlock (Value.slice B m e).ownBlock q ∧ (Value.slice A n c).ownBlock ≠ some q) fun q hq hF => by
    have e1 : (Value.slice A n c).ownBlock ≠ some q := fun e => by have := (h.wds.lt q e).2; omega
    have e2 : (Value.slice B m e).ownBlock ≠ some q := fun e => by have := (hu.lt q e).2; omega
    refine ⟨⟨by omega, ?_, e2⟩, e1⟩
    rcases hor with e | e
    · rw [e]; exact e1
    · rw [e]; intro h; injection h with h; have := b.size; omega
  have k1 := h1.keep (keeps_below b)
  have k2 := k1.keep (keeps_grown hg fun q hq => hq.2)
  have k3 := k2.keep (keeps_setCell w3 ⟨g, 3, none⟩ u fun q hq => by have := hq.1.1; have := h.low; simp; omega)
  have k4 := k3.keep (w' := W5) ⟨by have := b'.size; simpa using this, fun q _ hq => b'.block q (by simpa using hq)⟩
  exact k4.weaken fun _ _ h => h.1
/-- What hangs below a choice that was read. -/
theorem Cz.bel {F : Nat → Prop} (h : Cz r base g w k nm A n c B m e ws ks) (hn : ∀ b ∈ nm, b < 256) (hF : ∀ q, base ≤ q → F q) : Bel (Kd F w (r + 1)) F w (.mk k [] nm ws ks) (.slice A n c) (.slice B m e) := by
  obtain ⟨us, ho, hk⟩ := h.kds
  refine ⟨⟨fun _ hh => absurd hh (by simp [D.Nd.t]), hn, h.b8⟩, ⟨A, n, c, rfl, h.wds.cap.1, (h.wds.rf fun g hg => hF _ (h.wds.block_le _ hg))⟩, B, m, e, us, rfl, ho.cap.1, (ho.rf fun g hg => hF _ (ho.block_le _ hg)), hk.1, hk.2.1, fun j u q hu hq => (hk.2.2 j u q hu hq).weaken fun b _ hb => hF b hb.1⟩
end
end Go.Proofs.YtohhfcfnclafdaaGreatDoor
