/-
  The program's reader: a name, a kind's word, a case's word.
  The program's reader: blanks, a comma, a name, a kind.
  The document's message: parts one behind another.
-/
import Derived.Test.YtlheaabmpcnchaaGreatDoorG20
import Derived.Test.YtlheaabmpcnchaaGreatDoorG14
set_option linter.unusedVariables false
set_option linter.unusedSimpArgs false
set_option maxRecDepth 100000
namespace Go.Proofs.YtlheaabmpcnchaaGreatDoor
open Go.RowKit
attribute [local go_sem ↓] Go.wp_at_zero Go.wp_at_succ Nm.ld_a Nm.ld_n Nm.st_a Nm.st_n Nm.lv_a Nm.lv_n
attribute [local go_sem] Nm.run_ld_a Nm.run_ld_n Nm.run_lv_a Nm.run_lv_n Nm.rd_new Nm.rd_old Nm.rd_drew Nm.rd_drewN Nm.st_z

def D.nmE (t : List Nat) : Nat := if Nm.D.isB t then 0 else 15
def D.nmV (t : List Nat) : Nm.D.Nm := if Nm.D.isB t then Nm.D.pad (D.sb t) else Nm.D.zero
def D.kdE (d k : Nat) : Nat := if k = 0 then 16 else if (k == 3 || k == 4) && d == 3 then 19 else 0
def D.lgE (k : Nat) (t : List Nat) (ws : List (List Nat)) : Nat := if D.cwd k t = false then 15 else if t ∈ ws then 8 else 0
theorem fr_grown {w w' : World} {b : Nat} (h : w.grownBy w' (some b)) : Fr (· = b) w w' := ⟨h.os, h.tape, h.output, h.size, fun i hi hn => h.block i hi fun e => hn (by injection e)⟩
theorem rw_fr {sz n : Nat} {S : Nat → Prop} {w w' : World} {A : Option Addr} {xs : List Value} (h : Rw sz w A n xs) (k : Fr S w w') (hS : ∀ ad, A = some ad → ¬ S ad.block) : Rw sz w' A n xs := ⟨h.len, fun hn => by
  obtain ⟨ad, e, hl, hc⟩ := h.to hn
  exact ⟨ad, e, Nat.lt_of_lt_of_le hl k.size, fun j u hu => (World.cell?_of_block (w := w) (by rw [block_of_add]; exact k.same _ hl (hS ad e))).trans (hc j u hu)⟩⟩
theorem nameC (b : Nat) (x0 : Nm.D.Nm) (u : ByteArray) (W : World) (hB : Blk W b 45 (Nm.nc x0)) : Calls Tryz.prog 126 #[.string u, vr b] W fun x w' => x = .returned (.int .i64 (D.nmE (D.ns u) : Nat)) ∧ Blk w' b 45 (Nm.nc (D.nmV (D.ns u))) ∧ Fr (· = b) W w' := by
  have HB := Lib.hid hB
  clear hB
  cases hb : Nm.D.isB (D.ns u) with
  | true =>
    have cP := Lib.hid (fun W => parse_is u hb W)
    have e1 : D.nmE (D.ns u) = 0 := by unfold D.nmE; rw [hb]; rfl
    have e2 : D.nmV (D.ns u) = Nm.D.pad u := by unfold D.nmV; rw [hb, D.sb_ns]; rfl
    rw [e1, e2]
    clear e1 e2 hb
    go_enter Tryz.func126, Tryz.ntmps126
    go_wp2_with (go_at_call 127; (with_reducible refine (cP.out _).mono ?_); rintro e w1 ⟨rfl, b1⟩; obtain ⟨w9, hst, B9, hg9⟩ := Nm.st_blk (.inr rfl) (HB.out.on b1) (Nm.nc_size x0) (Nm.D.pad u))
    go_ret
    exact ⟨rfl, B9, (Fr.of_below b1 (Nat.le_refl _)).step (fr_grown hg9)⟩
  | false =>
    have cP := Lib.hid (fun W => parse_not u hb W)
    have e1 : D.nmE (D.ns u) = 15 := by unfold D.nmE; rw [hb]; rfl
    have e2 : D.nmV (D.ns u) = Nm.D.zero := by unfold D.nmV; rw [hb]; rfl
    rw [e1, e2]
    clear e1 e2 hb
    go_enter Tryz.func126, Tryz.ntmps126
    go_wp2_with (go_at_call 127; (with_reducible refine (cP.out _).mono ?_); rintro e w1 ⟨rfl, b1⟩; obtain ⟨w9, hst, B9, hg9⟩ := Nm.st_blk (.inr rfl) (HB.out.on b1) (Nm.nc_size x0) Nm.D.zero)
    go_ret
    exact ⟨rfl, B9, (Fr.of_below b1 (Nat.le_refl _)).step (fr_grown hg9)⟩
theorem kindC (b p d z0 : Nat) (v : Bool) (u : ByteArray) (W : World) (hB : Blk W b 3 #[.int .i64 (z0 : Nat)]) (hP : Blk W p 77 #[.int .i64 (d : Nat), .bool v]) (hne : D.ns u ≠ []) (hK : Knd W) (hd : d ≤ 3) :
    Calls Tryz.prog 129 #[.string u, vr b, vr p] W fun x w' => x = .returned (.int .i64 (D.kdE d (D.kndT (D.ns u)) : Nat)) ∧ Blk w' b 3 #[.int .i64 (D.kndT (D.ns u) : Nat)] ∧ Fr (· = b) W w' := by
  have cK := Lib.hid (kindOf_any u W hK hne)
  have hk : D.kndT (D.ns u) = 0 ∨ D.kndT (D.ns u) = 2 ∨ D.kndT (D.ns u) = 3 ∨ D.kndT (D.ns u) = 4 := D.knd_cases _
  have hbp : b ≠ p := fun e => by
    subst e
    have := hB.out.symm.trans hP.out
    injection this with this
    injection this with _ h2
    exact absurd h2 (by decide)
  have cc := hB.c_ 0
  have cf := hB.f_
  have p0 := hP.c_ 0
  have BB := Lib.hid (fun k : Nat => hB.put_ 0 (.int .i64 (k : Nat)))
  have cC := Lib.hid (fun k W => choice_any k W)
  have hFr := fun k : Nat => (Fr.refl (· = b) W).setCell ⟨b, 0, none⟩ (.int .i64 (k : Nat)) (fun _ => rfl)
  have HF := Lib.hid hFr
  obtain ⟨k, hkk⟩ : ∃ k, D.kndT (D.ns u) = k := ⟨_, rfl⟩
  rw [hkk] at cK hk ⊢
  clear hB hP hkk hK hne hFr
  have hz : ∀ m : Nat, Blk (W.setCell ⟨b, 0, none⟩ (.int .i64 (m : Nat))) b 3 #[.int .i64 (m : Nat)] := fun m => BB.out m
  have HZ := Lib.hid hz
  clear hz
  rcases hk with rfl | rfl | rfl | rfl
  · have CC := Lib.hid (cC.out 0)
    go_enter Tryz.func129, Tryz.ntmps129
    go_wp2_with (go_at_call 130; (with_reducible refine cK.out.mono ?_); rintro e w1 ⟨rfl, rfl⟩)
    go_ret
    exact ⟨rfl, HZ.out 0, HF.out 0⟩
  · have CC : Hid (∀ W, Calls Tryz.prog 96 #[.int .i64 2] W fun e w' => e = .returned (.bool false) ∧ W = w') := Lib.hid (cC.out 2)
    go_enter Tryz.func129, Tryz.ntmps129
    go_wp2_with (first
      | (go_at_call 130; (with_reducible refine cK.out.mono ?_); rintro e w1 ⟨rfl, rfl⟩)
      | (go_at_call 96; (with_reducible refine (CC.out _).mono ?_); rintro e w1 ⟨rfl, rfl⟩))
    go_ret
    exact ⟨rfl, HZ.out 2, HF.out 2⟩
  · have CC : Hid (∀ W, Calls Tryz.prog 96 #[.int .i64 3] W fun e w' => e = .returned (.bool true) ∧ W = w') := Lib.hid (cC.out 3)
    have hp0 : (W.setCell ⟨b, 0, none⟩ (.int .i64 3)).cell? ⟨p, 0, none⟩ = some (.int .i64 (d : Nat)) := by
      rw [World.cell?_of_block (w := W) (Below.heap_setCell W ⟨b, 0, none⟩ (.int .i64 3) p (Ne.symm hbp))]; exact p0
    by_cases h3 : d = 3
    · subst h3
      go_enter Tryz.func129, Tryz.ntmps129
      go_wp2_with (first
        | (go_at_call 130; (with_reducible refine cK.out.mono ?_); rintro e w1 ⟨rfl, rfl⟩)
        | (go_at_call 96; (with_reducible refine (CC.out _).mono ?_); rintro e w1 ⟨rfl, rfl⟩))
      go_ret
      exact ⟨rfl, HZ.out 3, HF.out 3⟩
    · have i3 : ((d : Int) == 3) = false := by simp; omega
      have hE : D.kdE d 3 = 0 := by unfold D.kdE; simp [h3]
      rw [hE]
      clear hE h3
      go_enter Tryz.func129, Tryz.ntmps129
      go_wp2_with (first
        | (go_at_call 130; (with_reducible refine cK.out.mono ?_); rintro e w1 ⟨rfl, rfl⟩)
        | (go_at_call 96; (with_reducible refine (CC.out _).mono ?_); rintro e w1 ⟨rfl, rfl⟩))
      go_ret
      exact ⟨rfl, HZ.out 3, HF.out 3⟩
  · have CC : Hid (∀ W, Calls Tryz.prog 96 #[.int .i64 4] W fun e w' => e = .returned (.bool true) ∧ W = w') := Lib.hid (cC.out 4)
    have hp0 : (W.setCell ⟨b, 0, none⟩ (.int .i64 4)).cell? ⟨p, 0, none⟩ = some (.int .i64 (d : Nat)) := by
      rw [World.cell?_of_block (w := W) (Below.heap_setCell W ⟨b, 0, none⟩ (.int .i64 4) p (Ne.symm hbp))]; exact p0
    by_cases h3 : d = 3
    · subst h3
      go_enter Tryz.func129, Tryz.ntmps129
      go_wp2_with (first
        | (go_at_call 130; (with_reducible refine cK.out.mono ?_); rintro e w1 ⟨rfl, rfl⟩)
        | (go_at_call 96; (with_reducible refine (CC.out _).mono ?_); rintro e w1 ⟨rfl, rfl⟩))
      go_ret
      exact ⟨rfl, HZ.out 4, HF.out 4⟩
    · have i3 : ((d : Int) == 3) = false := by simp; omega
      have hE : D.kdE d 4 = 0 := by unfold D.kdE; simp [h3]
      rw [hE]
      clear hE h3
      go_enter Tryz.func129, Tryz.ntmps129
      go_wp2_with (first
        | (go_at_call 130; (with_reducible refine cK.out.mono ?_); rintro e w1 ⟨rfl, rfl⟩)
        | (go_at_call 96; (with_reducible refine (CC.out _).mono ?_); rintro e w1 ⟨rfl, rfl⟩))
      go_ret
      exact ⟨rfl, HZ.out 4, HF.out 4⟩
theorem caseC (q r k : Nat) (A : Option Addr) (n c : Nat) (cs : List (List Nat × Value)) (u : ByteArray) (W : World) (hq : W.cell? ⟨q, 0, none⟩ = some (.int .i64 (k : Nat))) (hr : W.cell? ⟨r, 0, none⟩ = some (.slice A n c))
    (hR : Rw 2 W A n (ccs cs)) (hb : D.B8 (cs.map (·.1))) (h1 : ∀ x ∈ cs, x.2.oneCell' = true) (hn : n ≤ 1000000) (hE : Env W) :
    Calls Tryz.prog 131 #[.string u, vr q, vr r] W fun x w' => x = .returned (.int .i64 (D.lgE k (D.ns u) (cs.map (·.1)) : Nat)) ∧ Below W.heap.size W w' := by
  have cW := Lib.hid (caseWord_any k u W hE)
  have cF := Lib.hid (fun W' (hb2 : Below W.heap.size W W') => cfind_any A n c cs u W' (hR.on hb2) hb h1 hn)
  have HR := Lib.hid hr
  obtain ⟨t, ht⟩ : ∃ t, D.ns u = t := ⟨_, rfl⟩
  obtain ⟨ws, hw⟩ : ∃ ws, cs.map (·.1) = ws := ⟨_, rfl⟩
  rw [ht] at cW cF ⊢
  rw [hw] at cF ⊢
  clear ht hw hR hb h1 hE hr
  cases hc : D.cwd k t with
  | false =>
    have hL : D.lgE k t ws = 15 := by unfold D.lgE; rw [if_pos hc]
    rw [hc] at cW
    rw [hL]
    clear hL hc
    go_enter Tryz.func131, Tryz.ntmps131
    go_wp2_with (go_at_call 132; (with_reducible refine cW.out.mono ?_); rintro e w1 ⟨rfl, b1⟩)
    go_ret
    exact ⟨rfl, b1⟩
  | true =>
    rw [hc] at cW
    have hL : D.lgE k t ws = if t ∈ ws then 8 else 0 := by unfold D.lgE; rw [if_neg (by rw [hc]; simp)]
    rw [hL]
    clear hL hc
    by_cases hm : t ∈ ws
    · have hi : (0 : Int) ≤ D.fnd ws t := by unfold D.fnd; rw [if_pos hm]; omega
      have h0 : decide ((0 : Int) ≤ D.fnd ws t) = true := decide_eq_true hi
      rw [if_pos hm]
      obtain ⟨z, hz⟩ : ∃ z, D.fnd ws t = z := ⟨_, rfl⟩
      rw [hz] at hi cF h0
      clear hm hz
      go_enter Tryz.func131, Tryz.ntmps131
      go_wp2_with (first
        | (go_at_call 132; (with_reducible refine cW.out.mono ?_); rintro e w1 ⟨rfl, b1⟩; have hr1 := cell_kept_ b1 HR.out; have B1 := Lib.hid b1; clear b1)
        | (go_at_call 133; (with_reducible refine (cF.out _ B1.out).mono ?_); rintro e w2 ⟨rfl, b2⟩))
      go_ret
      exact ⟨rfl, B1.out.trans (b2.mono B1.out.size)⟩
    · have hi : ¬ (0 : Int) ≤ D.fnd ws t := by unfold D.fnd; rw [if_neg hm]; omega
      have h0 : decide ((0 : Int) ≤ D.fnd ws t) = false := decide_eq_false hi
      have hi' : D.fnd ws t < 0 := by omega
      rw [if_neg hm]
      obtain ⟨z, hz⟩ : ∃ z, D.fnd ws t = z := ⟨_, rfl⟩
      rw [hz] at hi cF h0 hi'
      clear hm hz
      go_enter Tryz.func131, Tryz.ntmps131
      go_wp2_with (first
        | (go_at_call 132; (with_reducible refine cW.out.mono ?_); rintro e w1 ⟨rfl, b1⟩; have hr1 := cell_kept_ b1 HR.out; have B1 := Lib.hid b1; clear b1)
        | (go_at_call 133; (with_reducible refine (cF.out _ B1.out).mono ?_); rintro e w2 ⟨rfl, b2⟩))
      go_ret
      exact ⟨rfl, B1.out.trans (b2.mono B1.out.size)⟩
theorem sub_nil {l : List Nat} {i : Nat} : D.sub l i i = [] := by unfold D.sub; exact List.drop_of_length_le (by simp; omega)
theorem sub_ne {l : List Nat} {i k : Nat} (h : i < k) (hk : k ≤ l.length) : D.sub l i k ≠ [] := by
  intro e
  have := congrArg List.length e
  unfold D.sub at this
  simp at this
  omega
set_option maxHeartbeats 4000000 in
theorem word_name (s : ByteArray) (g a : Nat) (b : Nat) (x0 : Nm.D.Nm) (w : World) (h : Rdr w g s a 0) (ha : a ≤ s.size) (hs : s.size ≤ 1000) (hB : Blk w b 45 (Nm.nc x0)) (hgb : g ≠ b) :
    Calls Tryz.prog 125 #[vr g, .func (.func 126) #[] #[vr b]] w fun x w' => Fr (fun i => i = g ∨ i = b) w w' ∧
      (D.far D.wdB (D.ns s) a = a → x = .returned (.string ⟨#[]⟩) ∧ Rdr w' g s a 3 ∧ Blk w' b 45 (Nm.nc x0)) ∧
      (D.far D.wdB (D.ns s) a ≠ a → x = .returned (.string (D.sb (D.sub (D.ns s) a (D.far D.wdB (D.ns s) a)))) ∧ Rdr w' g s (if D.nmE (D.sub (D.ns s) a (D.far D.wdB (D.ns s) a)) = 0 then D.far D.wdB (D.ns s) a else a) (D.nmE (D.sub (D.ns s) a (D.far D.wdB (D.ns s) a))) ∧ Blk w' b 45 (Nm.nc (D.nmV (D.sub (D.ns s) a (D.far D.wdB (D.ns s) a))))) := by
  have hlen := D.ns_len s
  have h256 := ns_lt s
  have cW := while_word s g a 0 w h ha hs
  have cF := fun W e (f : Nat) (z : Int) (hz : z = f) (hW : Rdr W g s e 0) => fail_any s g e 0 a f W hW z hz
  obtain ⟨l, hl⟩ : ∃ l, D.ns s = l := ⟨_, rfl⟩
  rw [hl] at cW hlen h256 ⊢
  rw [show D.wf D.wdB l a 0 = D.far D.wdB l a from if_pos rfl] at cW
  obtain ⟨K, hK0⟩ : ∃ K, D.far D.wdB l a = K := ⟨_, rfl⟩
  have hK1 : a ≤ K := hK0 ▸ D.far_ge _ _ _
  have hK2 : K ≤ l.length := hK0 ▸ D.far_le (by rw [hlen]; exact ha)
  rw [hK0] at cW ⊢
  have CW := Lib.hid cW
  have CF := Lib.hid cF
  have c1 := h.c1
  clear cW cF h hl hK0
  by_cases hq0 : K = a
  · have key : Calls Tryz.prog 125 #[vr g, .func (.func 126) #[] #[vr b]] w fun x w' => x = .returned (.string ⟨#[]⟩) ∧ Rdr w' g s a 3 ∧ Fr (· = g) w w' := by
      subst hq0
      rw [sub_nil] at CW
      obtain ⟨u, hu⟩ : ∃ u : ByteArray, u = ⟨#[]⟩ := ⟨_, rfl⟩
      have tt : (u.toList == []) = true := by rw [hu, ByteArray.toList_eq]; rfl
      have CW' : Hid (Calls Tryz.prog 62 #[vr g, .func (.func 134) #[] #[]] w fun x w' => x = .returned (.string u) ∧ Rdr w' g s K 0 ∧ Fr (· = g) w w') := by rw [hu]; exact CW
      clear CW hu
      go_enter Tryz.func125, Tryz.ntmps125
      go_wp2_with (first
        | (go_at_call 62; (with_reducible refine CW'.out.mono ?_); rintro y w1 ⟨rfl, h1_, f1_⟩; have HR1 := Lib.hid h1_; have HF1 := Lib.hid f1_; clear h1_ f1_)
        | (go_at_call 27; (with_reducible refine (CF.out _ K 3 3 rfl HR1.out).mono ?_); rintro y w2 ⟨rfl, h2, f2⟩))
      go_ret
      exact ⟨rfl, h2, HF1.out.step f2⟩
    exact key.mono fun x w' ⟨e, h2, f1⟩ => ⟨f1.mono (fun i _ e => Or.inl e), fun _ => ⟨e, h2, f1.blk hB (Ne.symm hgb)⟩, fun hne => absurd hq0 hne⟩
  · have hq1 : a < K := by omega
    have tt : ((D.sb (D.sub l a K)).toList == []) = false := by
      have := txt_eq (D.sb (D.sub l a K)) ⟨#[]⟩
      rw [D.ns_sb (sub_lt h256 a K)] at this
      rw [show (⟨#[]⟩ : ByteArray).toList = [] by rw [ByteArray.toList_eq]] at this
      exact this.trans (decide_eq_false (sub_ne hq1 hK2))
    have hns : D.ns (D.sb (D.sub l a K)) = D.sub l a K := D.ns_sb (sub_lt h256 a K)
    have cC := Lib.hid (fun W (hf : Fr (· = g) w W) => nameC b x0 (D.sb (D.sub l a K)) W (hf.blk hB (Ne.symm hgb)))
    rw [hns] at cC
    obtain ⟨F, hF⟩ : ∃ F, D.nmE (D.sub l a K) = F := ⟨_, rfl⟩
    rw [hF] at cC ⊢
    obtain ⟨E, hE⟩ : ∃ E, (if F = 0 then K else a) = E := ⟨_, rfl⟩
    rw [hE]
    have HE : Kept ((if F = 0 then K else a) = E) := ⟨hE⟩
    clear hE
    have key : Calls Tryz.prog 125 #[vr g, .func (.func 126) #[] #[vr b]] w fun x w' => x = .returned (.string (D.sb (D.sub l a K))) ∧ Kept (Rdr w' g s E F) ∧ Fr (fun i => i = g ∨ i = b) w w' ∧ Blk w' b 45 (Nm.nc (D.nmV (D.sub l a K))) := by
      clear hns hF hq0 hq1
      by_cases h0 : F = 0
      · subst h0
        go_enter Tryz.func125, Tryz.ntmps125
        go_wp2_with (first
          | (go_at_call 62; (with_reducible refine CW.out.mono ?_); rintro y w1 ⟨rfl, h1_, f1_⟩; have HR1 := Lib.hid h1_; have HF1 := Lib.hid f1_; clear h1_ f1_)
          | (go_at_call 126; (with_reducible refine (cC.out _ HF1.out).mono ?_); rintro y w2 ⟨rfl, B2, f2⟩))
        go_ret
        exact ⟨rfl, ⟨by rw [← HE.out]; exact HR1.out.fr f2 hgb⟩, (HF1.out.mono (S' := fun i => i = g ∨ i = b) (fun i _ e => Or.inl e)).step (f2.mono fun i _ e => Or.inr e), B2⟩
      · have hne : ((F : Int) != 0) = true := by simp; omega
        have H0 : Kept (¬ F = 0) := ⟨h0⟩
        clear h0
        go_enter Tryz.func125, Tryz.ntmps125
        go_wp2_with (first
          | (go_at_call 62; (with_reducible refine CW.out.mono ?_); rintro y w1 ⟨rfl, h1_, f1_⟩; have HR1 := Lib.hid h1_; have HF1 := Lib.hid f1_; clear h1_ f1_)
          | (go_at_call 126; (with_reducible refine (cC.out _ HF1.out).mono ?_); rintro y w2 ⟨rfl, B2, f2⟩; have R2 := HR1.out.fr f2 hgb; have HR2 := Lib.hid R2; clear R2)
          | (go_at_call 27; (with_reducible refine (CF.out _ K F F rfl HR2.out).mono ?_); rintro y w3 ⟨rfl, h3, f3⟩))
        go_ret
        exact ⟨rfl, ⟨by rw [← HE.out, if_neg H0.out]; exact h3⟩, ((HF1.out.mono (S' := fun i => i = g ∨ i = b) (fun i _ e => Or.inl e)).step (f2.mono fun i _ e => Or.inr e)).step (f3.mono fun i _ e => Or.inl e), f3.blk B2 (Ne.symm hgb)⟩
    exact key.mono fun x w' ⟨e, h2, f1, h3⟩ => ⟨f1, fun hh => absurd hh hq0, fun _ => ⟨e, h2.out, h3⟩⟩
set_option maxHeartbeats 4000000 in
theorem word_kind (s : ByteArray) (g a : Nat) (b p d z0 : Nat) (v : Bool) (w : World) (h : Rdr w g s a 0) (ha : a ≤ s.size) (hs : s.size ≤ 1000) (hB : Blk w b 3 #[.int .i64 (z0 : Nat)]) (hP : Blk w p 77 #[.int .i64 (d : Nat), .bool v]) (hK : Knd w) (hgb : g ≠ b) (hgp : g ≠ p) (hgk : g ≠ 0) (hd : d ≤ 3) :
    Calls Tryz.prog 125 #[vr g, .func (.func 129) #[] #[vr b, vr p]] w fun x w' => Fr (fun i => i = g ∨ i = b) w w' ∧
      (D.far D.wdB (D.ns s) a = a → x = .returned (.string ⟨#[]⟩) ∧ Rdr w' g s a 3 ∧ Blk w' b 3 #[.int .i64 (z0 : Nat)]) ∧
      (D.far D.wdB (D.ns s) a ≠ a → x = .returned (.string (D.sb (D.sub (D.ns s) a (D.far D.wdB (D.ns s) a)))) ∧ Rdr w' g s (if D.kdE d (D.kndT (D.sub (D.ns s) a (D.far D.wdB (D.ns s) a))) = 0 then D.far D.wdB (D.ns s) a else a) (D.kdE d (D.kndT (D.sub (D.ns s) a (D.far D.wdB (D.ns s) a)))) ∧ Blk w' b 3 #[.int .i64 (D.kndT (D.sub (D.ns s) a (D.far D.wdB (D.ns s) a)) : Nat)]) := by
  have hlen := D.ns_len s
  have h256 := ns_lt s
  have cW := while_word s g a 0 w h ha hs
  have cF := fun W e (f : Nat) (z : Int) (hz : z = f) (hW : Rdr W g s e 0) => fail_any s g e 0 a f W hW z hz
  obtain ⟨l, hl⟩ : ∃ l, D.ns s = l := ⟨_, rfl⟩
  rw [hl] at cW hlen h256 ⊢
  rw [show D.wf D.wdB l a 0 = D.far D.wdB l a from if_pos rfl] at cW
  obtain ⟨K, hK0⟩ : ∃ K, D.far D.wdB l a = K := ⟨_, rfl⟩
  have hK1 : a ≤ K := hK0 ▸ D.far_ge _ _ _
  have hK2 : K ≤ l.length := hK0 ▸ D.far_le (by rw [hlen]; exact ha)
  rw [hK0] at cW ⊢
  have CW := Lib.hid cW
  have CF := Lib.hid cF
  have c1 := h.c1
  clear cW cF h hl hK0
  by_cases hq0 : K = a
  · have key : Calls Tryz.prog 125 #[vr g, .func (.func 129) #[] #[vr b, vr p]] w fun x w' => x = .returned (.string ⟨#[]⟩) ∧ Rdr w' g s a 3 ∧ Fr (· = g) w w' := by
      subst hq0
      rw [sub_nil] at CW
      obtain ⟨u, hu⟩ : ∃ u : ByteArray, u = ⟨#[]⟩ := ⟨_, rfl⟩
      have tt : (u.toList == []) = true := by rw [hu, ByteArray.toList_eq]; rfl
      have CW' : Hid (Calls Tryz.prog 62 #[vr g, .func (.func 134) #[] #[]] w fun x w' => x = .returned (.string u) ∧ Rdr w' g s K 0 ∧ Fr (· = g) w w') := by rw [hu]; exact CW
      clear CW hu
      go_enter Tryz.func125, Tryz.ntmps125
      go_wp2_with (first
        | (go_at_call 62; (with_reducible refine CW'.out.mono ?_); rintro y w1 ⟨rfl, h1_, f1_⟩; have HR1 := Lib.hid h1_; have HF1 := Lib.hid f1_; clear h1_ f1_)
        | (go_at_call 27; (with_reducible refine (CF.out _ K 3 3 rfl HR1.out).mono ?_); rintro y w2 ⟨rfl, h2, f2⟩))
      go_ret
      exact ⟨rfl, h2, HF1.out.step f2⟩
    exact key.mono fun x w' ⟨e, h2, f1⟩ => ⟨f1.mono (fun i _ e => Or.inl e), fun _ => ⟨e, h2, f1.blk hB (Ne.symm hgb)⟩, fun hne => absurd hq0 hne⟩
  · have hq1 : a < K := by omega
    have tt : ((D.sb (D.sub l a K)).toList == []) = false := by
      have := txt_eq (D.sb (D.sub l a K)) ⟨#[]⟩
      rw [D.ns_sb (sub_lt h256 a K)] at this
      rw [show (⟨#[]⟩ : ByteArray).toList = [] by rw [ByteArray.toList_eq]] at this
      exact this.trans (decide_eq_false (sub_ne hq1 hK2))
    have hns : D.ns (D.sb (D.sub l a K)) = D.sub l a K := D.ns_sb (sub_lt h256 a K)
    have cC := Lib.hid (fun W (hf : Fr (· = g) w W) => kindC b p d z0 v (D.sb (D.sub l a K)) W (hf.blk hB (Ne.symm hgb)) (hf.blk hP (Ne.symm hgp)) (by rw [D.ns_sb (sub_lt h256 a K)]; exact sub_ne (by omega) hK2) ⟨hf.cell hK.c0 (Ne.symm hgk), hf.cell hK.c1 (Ne.symm hgk), hf.cell hK.c2 (Ne.symm hgk), hf.cell hK.c3 (Ne.symm hgk), hf.cell hK.c4 (Ne.symm hgk)⟩ hd)
    rw [hns] at cC
    obtain ⟨F, hF⟩ : ∃ F, D.kdE d (D.kndT (D.sub l a K)) = F := ⟨_, rfl⟩
    rw [hF] at cC ⊢
    obtain ⟨E, hE⟩ : ∃ E, (if F = 0 then K else a) = E := ⟨_, rfl⟩
    rw [hE]
    have HE : Kept ((if F = 0 then K else a) = E) := ⟨hE⟩
    clear hE
    have key : Calls Tryz.prog 125 #[vr g, .func (.func 129) #[] #[vr b, vr p]] w fun x w' => x = .returned (.string (D.sb (D.sub l a K))) ∧ Kept (Rdr w' g s E F) ∧ Fr (fun i => i = g ∨ i = b) w w' ∧ Blk w' b 3 #[.int .i64 (D.kndT (D.sub l a K) : Nat)] := by
      clear hns hF hq0 hq1
      by_cases h0 : F = 0
      · subst h0
        go_enter Tryz.func125, Tryz.ntmps125
        go_wp2_with (first
          | (go_at_call 62; (with_reducible refine CW.out.mono ?_); rintro y w1 ⟨rfl, h1_, f1_⟩; have HR1 := Lib.hid h1_; have HF1 := Lib.hid f1_; clear h1_ f1_)
          | (go_at_call 129; (with_reducible refine (cC.out _ HF1.out).mono ?_); rintro y w2 ⟨rfl, B2, f2⟩))
        go_ret
        exact ⟨rfl, ⟨by rw [← HE.out]; exact HR1.out.fr f2 hgb⟩, (HF1.out.mono (S' := fun i => i = g ∨ i = b) (fun i _ e => Or.inl e)).step (f2.mono fun i _ e => Or.inr e), B2⟩
      · have hne : ((F : Int) != 0) = true := by simp; omega
        have H0 : Kept (¬ F = 0) := ⟨h0⟩
        clear h0
        go_enter Tryz.func125, Tryz.ntmps125
        go_wp2_with (first
          | (go_at_call 62; (with_reducible refine CW.out.mono ?_); rintro y w1 ⟨rfl, h1_, f1_⟩; have HR1 := Lib.hid h1_; have HF1 := Lib.hid f1_; clear h1_ f1_)
          | (go_at_call 129; (with_reducible refine (cC.out _ HF1.out).mono ?_); rintro y w2 ⟨rfl, B2, f2⟩; have R2 := HR1.out.fr f2 hgb; have HR2 := Lib.hid R2; clear R2)
          | (go_at_call 27; (with_reducible refine (CF.out _ K F F rfl HR2.out).mono ?_); rintro y w3 ⟨rfl, h3, f3⟩))
        go_ret
        exact ⟨rfl, ⟨by rw [← HE.out, if_neg H0.out]; exact h3⟩, ((HF1.out.mono (S' := fun i => i = g ∨ i = b) (fun i _ e => Or.inl e)).step (f2.mono fun i _ e => Or.inr e)).step (f3.mono fun i _ e => Or.inl e), f3.blk B2 (Ne.symm hgb)⟩
    exact key.mono fun x w' ⟨e, h2, f1, h3⟩ => ⟨f1, fun hh => absurd hh hq0, fun _ => ⟨e, h2.out, h3⟩⟩
set_option maxHeartbeats 4000000 in
theorem word_case (s : ByteArray) (g a : Nat) (q r k : Nat) (A : Option Addr) (n c : Nat) (cs : List (List Nat × Value)) (w : World) (h : Rdr w g s a 0) (ha : a ≤ s.size) (hs : s.size ≤ 1000) (hq : w.cell? ⟨q, 0, none⟩ = some (.int .i64 (k : Nat))) (hr : w.cell? ⟨r, 0, none⟩ = some (.slice A n c)) (hR : Rw 2 w A n (ccs cs)) (hb : D.B8 (cs.map (·.1))) (h1 : ∀ x ∈ cs, x.2.oneCell' = true) (hn : n ≤ 1000000) (hE : Env w) (hgq : g ≠ q) (hgr : g ≠ r) (hgA : ∀ ad, A = some ad → ad.block ≠ g) (hgw : g ≠ 5) :
    Calls Tryz.prog 125 #[vr g, .func (.func 131) #[] #[vr q, vr r]] w fun x w' => Fr (fun i => i = g) w w' ∧
      (D.far D.wdB (D.ns s) a = a → x = .returned (.string ⟨#[]⟩) ∧ Rdr w' g s a 3 ∧ True) ∧
      (D.far D.wdB (D.ns s) a ≠ a → x = .returned (.string (D.sb (D.sub (D.ns s) a (D.far D.wdB (D.ns s) a)))) ∧ Rdr w' g s (if D.lgE k (D.sub (D.ns s) a (D.far D.wdB (D.ns s) a)) (cs.map (·.1)) = 0 then D.far D.wdB (D.ns s) a else a) (D.lgE k (D.sub (D.ns s) a (D.far D.wdB (D.ns s) a)) (cs.map (·.1))) ∧ True) := by
  have hlen := D.ns_len s
  have h256 := ns_lt s
  have cW := while_word s g a 0 w h ha hs
  have cF := fun W e (f : Nat) (z : Int) (hz : z = f) (hW : Rdr W g s e 0) => fail_any s g e 0 a f W hW z hz
  obtain ⟨l, hl⟩ : ∃ l, D.ns s = l := ⟨_, rfl⟩
  rw [hl] at cW hlen h256 ⊢
  rw [show D.wf D.wdB l a 0 = D.far D.wdB l a from if_pos rfl] at cW
  obtain ⟨K, hK0⟩ : ∃ K, D.far D.wdB l a = K := ⟨_, rfl⟩
  have hK1 : a ≤ K := hK0 ▸ D.far_ge _ _ _
  have hK2 : K ≤ l.length := hK0 ▸ D.far_le (by rw [hlen]; exact ha)
  rw [hK0] at cW ⊢
  have CW := Lib.hid cW
  have CF := Lib.hid cF
  have c1 := h.c1
  clear cW cF h hl hK0
  by_cases hq0 : K = a
  · have key : Calls Tryz.prog 125 #[vr g, .func (.func 131) #[] #[vr q, vr r]] w fun x w' => x = .returned (.string ⟨#[]⟩) ∧ Rdr w' g s a 3 ∧ Fr (· = g) w w' := by
      subst hq0
      rw [sub_nil] at CW
      obtain ⟨u, hu⟩ : ∃ u : ByteArray, u = ⟨#[]⟩ := ⟨_, rfl⟩
      have tt : (u.toList == []) = true := by rw [hu, ByteArray.toList_eq]; rfl
      have CW' : Hid (Calls Tryz.prog 62 #[vr g, .func (.func 134) #[] #[]] w fun x w' => x = .returned (.string u) ∧ Rdr w' g s K 0 ∧ Fr (· = g) w w') := by rw [hu]; exact CW
      clear CW hu
      go_enter Tryz.func125, Tryz.ntmps125
      go_wp2_with (first
        | (go_at_call 62; (with_reducible refine CW'.out.mono ?_); rintro y w1 ⟨rfl, h1_, f1_⟩; have HR1 := Lib.hid h1_; have HF1 := Lib.hid f1_; clear h1_ f1_)
        | (go_at_call 27; (with_reducible refine (CF.out _ K 3 3 rfl HR1.out).mono ?_); rintro y w2 ⟨rfl, h2, f2⟩))
      go_ret
      exact ⟨rfl, h2, HF1.out.step f2⟩
    exact key.mono fun x w' ⟨e, h2, f1⟩ => ⟨f1.mono (fun i _ e => e), fun _ => ⟨e, h2, trivial⟩, fun hne => absurd hq0 hne⟩
  · have hq1 : a < K := by omega
    have tt : ((D.sb (D.sub l a K)).toList == []) = false := by
      have := txt_eq (D.sb (D.sub l a K)) ⟨#[]⟩
      rw [D.ns_sb (sub_lt h256 a K)] at this
      rw [show (⟨#[]⟩ : ByteArray).toList = [] by rw [ByteArray.toList_eq]] at this
      exact this.trans (decide_eq_false (sub_ne hq1 hK2))
    have hns : D.ns (D.sb (D.sub l a K)) = D.sub l a K := D.ns_sb (sub_lt h256 a K)
    have cC := Lib.hid (fun W (hf : Fr (· = g) w W) => caseC q r k A n c cs (D.sb (D.sub l a K)) W (hf.cell hq (Ne.symm hgq)) (hf.cell hr (Ne.symm hgr)) (rw_fr hR hf fun ad e => hgA ad e) hb h1 hn ⟨hf.cell hE.c0 (Ne.symm hgw), hf.cell hE.c1 (Ne.symm hgw), hf.cell hE.c2 (Ne.symm hgw), hf.cell hE.c3 (Ne.symm hgw), hf.cell hE.c4 (Ne.symm hgw), hf.cell hE.c5 (Ne.symm hgw)⟩)
    rw [hns] at cC
    obtain ⟨F, hF⟩ : ∃ F, D.lgE k (D.sub l a K) (cs.map (·.1)) = F := ⟨_, rfl⟩
    rw [hF] at cC ⊢
    obtain ⟨E, hE⟩ : ∃ E, (if F = 0 then K else a) = E := ⟨_, rfl⟩
    rw [hE]
    have HE : Kept ((if F = 0 then K else a) = E) := ⟨hE⟩
    clear hE
    have key : Calls Tryz.prog 125 #[vr g, .func (.func 131) #[] #[vr q, vr r]] w fun x w' => x = .returned (.string (D.sb (D.sub l a K))) ∧ Kept (Rdr w' g s E F) ∧ Fr (fun i => i = g) w w' ∧ True := by
      clear hns hF hq0 hq1
      by_cases h0 : F = 0
      · subst h0
        go_enter Tryz.func125, Tryz.ntmps125
        go_wp2_with (first
          | (go_at_call 62; (with_reducible refine CW.out.mono ?_); rintro y w1 ⟨rfl, h1_, f1_⟩; have HR1 := Lib.hid h1_; have HF1 := Lib.hid f1_; clear h1_ f1_)
          | (go_at_call 131; (with_reducible refine (cC.out _ HF1.out).mono ?_); rintro y w2 ⟨rfl, b2⟩))
        go_ret
        exact ⟨rfl, ⟨by rw [← HE.out]; exact HR1.out.on b2⟩, (HF1.out.mono (S' := fun i => i = g) (fun i _ e => e)).step (Fr.of_below b2 (Nat.le_refl _)), trivial⟩
      · have hne : ((F : Int) != 0) = true := by simp; omega
        have H0 : Kept (¬ F = 0) := ⟨h0⟩
        clear h0
        go_enter Tryz.func125, Tryz.ntmps125
        go_wp2_with (first
          | (go_at_call 62; (with_reducible refine CW.out.mono ?_); rintro y w1 ⟨rfl, h1_, f1_⟩; have HR1 := Lib.hid h1_; have HF1 := Lib.hid f1_; clear h1_ f1_)
          | (go_at_call 131; (with_reducible refine (cC.out _ HF1.out).mono ?_); rintro y w2 ⟨rfl, b2⟩; have R2 := HR1.out.on b2; have HR2 := Lib.hid R2; clear R2)
          | (go_at_call 27; (with_reducible refine (CF.out _ K F F rfl HR2.out).mono ?_); rintro y w3 ⟨rfl, h3, f3⟩))
        go_ret
        exact ⟨rfl, ⟨by rw [← HE.out, if_neg H0.out]; exact h3⟩, ((HF1.out.mono (S' := fun i => i = g) (fun i _ e => e)).step (Fr.of_below b2 (Nat.le_refl _))).step (f3.mono fun i _ e => e), trivial⟩
    exact key.mono fun x w' ⟨e, h2, f1, h3⟩ => ⟨f1, fun hh => absurd hh hq0, fun _ => ⟨e, h2.out, h3⟩⟩
end Go.Proofs.YtlheaabmpcnchaaGreatDoor
set_option linter.unusedVariables false
set_option linter.unusedSimpArgs false
set_option maxRecDepth 100000
namespace Go.Proofs.YtlheaabmpcnchaaGreatDoor
open Go.RowKit
attribute [local go_sem ↓] Go.wp_at_zero Go.wp_at_succ Nm.ld_a Nm.ld_n Nm.st_a Nm.st_n Nm.lv_a Nm.lv_n
attribute [local go_sem] Nm.run_ld_a Nm.run_ld_n Nm.run_lv_a Nm.run_lv_n Nm.rd_new Nm.rd_old Nm.rd_drew Nm.rd_drewN Nm.st_z

theorem blanks_any (s : ByteArray) (g a e : Nat) (w : World) (h : Rdr w g s a e) (ha : a ≤ s.size) (hs : s.size ≤ 1000) :
    Calls Tryz.prog 128 #[vr g] w fun x w' => x = .returned (.tuple #[]) ∧ Rdr w' g s (D.wf (· == 32) (D.ns s) a e) e ∧ Fr (· = g) w w' := by
  have cW := Lib.hid (while_blank s g a e w h ha hs)
  obtain ⟨Q, hQ⟩ : ∃ Q, D.wf (· == 32) (D.ns s) a e = Q := ⟨_, rfl⟩
  obtain ⟨u, hu⟩ : ∃ u, D.sb (D.sub (D.ns s) a Q) = u := ⟨_, rfl⟩
  rw [hQ] at cW ⊢
  rw [hu] at cW
  clear h hQ hu
  go_enter Tryz.func128, Tryz.ntmps128
  go_wp2_with (go_at_call 62; (with_reducible refine cW.out.mono ?_); rintro y w1 ⟨rfl, h1, f1⟩)
  go_end0
  exact ⟨rfl, h1, f1⟩
theorem D.tk_le {l : List Nat} {c a e : Nat} (hc : c ≠ 0) (h : a ≤ l.length) : (D.tk l c a e).1 ≤ l.length := by
  unfold D.tk
  split
  · rename_i hn
    show a + 1 ≤ l.length
    unfold D.nb at hn
    split at hn
    · by_cases hk : a < l.length
      · omega
      · rw [List.getD, List.getElem?_eq_none (by omega)] at hn
        exact absurd hn.symm hc
    · exact absurd hn.symm hc
  · unfold D.fl
    split <;> exact h
theorem D.tk_dead {l : List Nat} {c a e : Nat} (hc : c ≠ 0) (h : e ≠ 0) : D.tk l c a e = (a, e) := by
  unfold D.tk
  rw [D.nb_dead h, if_neg (Ne.symm hc), D.fl, if_neg h]
theorem D.tk_live {l : List Nat} {c a : Nat} (h : l[a]? = some c) : D.tk l c a 0 = (a + 1, 0) := by
  unfold D.tk
  rw [D.nb_live, List.getD, h]
  exact if_pos rfl
theorem D.tk_not {l : List Nat} {c a : Nat} (hc : c ≠ 0) (h : l[a]? ≠ some c) : D.tk l c a 0 = (a, 3) := by
  unfold D.tk
  rw [D.nb_live, List.getD]
  rw [if_neg ?_]
  · rfl
  · cases hx : l[a]? with
    | none => exact Ne.symm hc
    | some y => rw [hx] at h; exact fun e => h (by rw [← e]; rfl)
theorem D.wf_dead {p : Nat → Bool} {l : List Nat} {a e : Nat} (h : e ≠ 0) : D.wf p l a e = a := if_neg h
theorem D.wf_live {p : Nat → Bool} {l : List Nat} {a : Nat} : D.wf p l a 0 = D.far p l a := if_pos rfl
/-- Behind a comma, and the blanks behind it. -/
def D.cm (l : List Nat) (a e : Nat) : Nat × Nat := (D.wf (· == 32) l (D.tk l 44 a e).1 (D.tk l 44 a e).2, (D.tk l 44 a e).2)
theorem comma_any (s : ByteArray) (g a e : Nat) (w : World) (h : Rdr w g s a e) (ha : a ≤ s.size) (hs : s.size ≤ 1000) :
    Calls Tryz.prog 94 #[vr g] w fun x w' => x = .returned (.tuple #[]) ∧ Rdr w' g s (D.cm (D.ns s) a e).1 (D.cm (D.ns s) a e).2 ∧ Fr (· = g) w w' := by
  have cT := Lib.hid (take_any s g a e 44 w h ha hs (by decide) 44 rfl)
  have hle := D.tk_le (l := D.ns s) (c := 44) (a := a) (e := e) (by decide) (by rw [D.ns_len]; exact ha)
  rw [D.ns_len] at hle
  unfold D.cm
  have cB := fun W (hW : Rdr W g s (D.tk (D.ns s) 44 a e).1 (D.tk (D.ns s) 44 a e).2) => blanks_any s g _ _ W hW hle hs
  obtain ⟨p, hp⟩ : ∃ p, D.tk (D.ns s) 44 a e = p := ⟨_, rfl⟩
  rw [hp] at cT cB ⊢
  obtain ⟨b, f⟩ := p
  simp only at cT cB ⊢
  have CB := Lib.hid cB
  clear hp hle cB h
  go_enter Tryz.func94, Tryz.ntmps94
  go_wp2_with (first
    | (go_at_call 60; (with_reducible refine cT.out.mono ?_); rintro y w1 ⟨rfl, h1_, f1_⟩; have HR1 := Lib.hid h1_; have HF1 := Lib.hid f1_; clear h1_ f1_)
    | (go_at_call 128; (with_reducible refine (CB.out _ HR1.out).mono ?_); rintro y w2 ⟨rfl, h2, f2⟩))
  go_end0
  exact ⟨rfl, h2, HF1.out.step f2⟩
/-- Behind a name, or a word, of which this is wrong. -/
def D.nx (a K F : Nat) : Nat × Nat := if K = a then (a, 3) else (if F = 0 then K else a, F)
/-- What a word's reader keeps of it. -/
def D.nmR (t : List Nat) : Nm.D.Nm := if t = [] then Nm.D.zero else D.nmV t
theorem sub_ex {l : List Nat} {a K : Nat} (h : K ≠ a) (h1 : a ≤ K) (h2 : K ≤ l.length) : D.sub l a K ≠ [] := sub_ne (by omega) h2
theorem rname_any (s : ByteArray) (g a : Nat) (w : World) (h : Rdr w g s a 0) (ha : a ≤ s.size) (hs : s.size ≤ 1000) :
    Calls Tryz.prog 93 #[vr g] w fun x w' => x = .returned (.agg (Nm.nc (D.nmR (D.sub (D.ns s) a (D.far D.wdB (D.ns s) a))))) ∧
      Rdr w' g s (D.nx a (D.far D.wdB (D.ns s) a) (D.nmE (D.sub (D.ns s) a (D.far D.wdB (D.ns s) a)))).1 (D.nx a (D.far D.wdB (D.ns s) a) (D.nmE (D.sub (D.ns s) a (D.far D.wdB (D.ns s) a)))).2 ∧ Fr (· = g) w w' := by
  have hlen := D.ns_len s
  have hgl := h.lt
  have cW := word_name s g a w.heap.size Nm.D.zero (w.alloc (.cells (Nm.nc Nm.D.zero) 45)) (h.on (below_alloc_ _ _)) ha hs (Blk.new w _ _) (by omega)
  have hF : Fr (· = g) w (w.alloc (.cells (Nm.nc Nm.D.zero) 45)) := (Fr.refl _ _).alloc _
  have hsz : (w.alloc (.cells (Nm.nc Nm.D.zero) 45)).heap.size = w.heap.size + 1 := by simp
  obtain ⟨l, hl⟩ : ∃ l, D.ns s = l := ⟨_, rfl⟩
  rw [hl] at cW hlen ⊢
  obtain ⟨K, hK⟩ : ∃ K, D.far D.wdB l a = K := ⟨_, rfl⟩
  have hK1 : a ≤ K := hK ▸ D.far_ge _ _ _
  have hK2 : K ≤ l.length := hK ▸ D.far_le (by rw [hlen]; exact ha)
  rw [hK] at cW ⊢
  obtain ⟨u, hu⟩ : ∃ u, u = (if K = a then (⟨#[]⟩ : ByteArray) else D.sb (D.sub l a K)) := ⟨_, rfl⟩
  have key : Calls Tryz.prog 125 #[vr g, .func (.func 126) #[] #[vr w.heap.size]] (w.alloc (.cells (Nm.nc Nm.D.zero) 45)) fun x w' => x = .returned (.string u) ∧
      Rdr w' g s (D.nx a K (D.nmE (D.sub l a K))).1 (D.nx a K (D.nmE (D.sub l a K))).2 ∧ Blk w' w.heap.size 45 (Nm.nc (D.nmR (D.sub l a K))) ∧ Fr (fun i => i = g ∨ i = w.heap.size) (w.alloc (.cells (Nm.nc Nm.D.zero) 45)) w' := by
    refine cW.mono fun x w' ⟨f, p, q⟩ => ?_
    by_cases hq : K = a
    · obtain ⟨e, h1, h2⟩ := p hq
      refine ⟨by rw [e, hu, if_pos hq], ?_, ?_, f⟩
      · rw [D.nx, if_pos hq]; exact h1
      · subst hq; rw [sub_nil, D.nmR, if_pos rfl]; exact h2
    · obtain ⟨e, h1, h2⟩ := q hq
      refine ⟨by rw [e, hu, if_neg hq], ?_, ?_, f⟩
      · rw [D.nx, if_neg hq]; exact h1
      · rw [D.nmR, if_neg (sub_ex hq hK1 hK2)]; exact h2
  obtain ⟨p, hp⟩ : ∃ p, D.nx a K (D.nmE (D.sub l a K)) = p := ⟨_, rfl⟩
  obtain ⟨m, hm⟩ : ∃ m, D.nmR (D.sub l a K) = m := ⟨_, rfl⟩
  rw [hp, hm] at key ⊢
  obtain ⟨b, f⟩ := p
  simp only at key ⊢
  rw [Nm.nc_zero] at key hF hsz
  have KEY := Lib.hid key
  have HF := Lib.hid hF
  clear key hF hp hm hu cW hK hl hK1 hK2 hlen h
  go_enter Tryz.func93, Tryz.ntmps93
  go_wp2_with (go_at_call 125; (with_reducible refine KEY.out.mono ?_); rintro y w1 ⟨rfl, h1_, b1_, f1_⟩; have HR1 := Lib.hid h1_; have HF1 := Lib.hid f1_; have hrd := Nm.rd_blk b1_; obtain ⟨w9, hst, B9, hg9⟩ := Nm.st_blk (.inr rfl) b1_ (Nm.nc_size m) m; have hrd9 := Nm.rd_blk B9; have hg := Lib.hid hg9; clear h1_ f1_ hg9)
  have hne : g ≠ w.heap.size := by omega
  refine bodyPost_ret (v := .agg (Nm.nc m)) (by have h1 := Nm.lv_of hrd9; simp only [results, Tryz.results93]; simp [Sem.run_bind, Result.andThen, asAddr, h1]) rfl ?_
  exact ⟨rfl, HR1.out.fr (fr_grown hg.out) hne, HF.out.trans (HF1.out.step ((fr_grown hg.out).mono fun i _ e => Or.inr e)) fun i hi e => by rcases e with e | e; exact e; omega⟩
theorem rkind_any (s : ByteArray) (g a d : Nat) (v : Bool) (w : World) (h : Rdr w g s a 0) (ha : a ≤ s.size) (hs : s.size ≤ 1000) (hK : Knd w) (hgk : g ≠ 0) (hd : d ≤ 3) :
    Calls Tryz.prog 95 #[vr g, .agg #[.int .i64 (d : Nat), .bool v]] w fun x w' => x = .returned (.int .i64 (D.kndT (D.sub (D.ns s) a (D.far D.wdB (D.ns s) a)) : Nat)) ∧
      Rdr w' g s (D.nx a (D.far D.wdB (D.ns s) a) (D.kdE d (D.kndT (D.sub (D.ns s) a (D.far D.wdB (D.ns s) a))))).1 (D.nx a (D.far D.wdB (D.ns s) a) (D.kdE d (D.kndT (D.sub (D.ns s) a (D.far D.wdB (D.ns s) a))))).2 ∧ Fr (· = g) w w' := by
  have hlen := D.ns_len s
  have hgl := h.lt
  obtain ⟨W, hW⟩ : ∃ W, (w.alloc (.cells #[.int .i64 (d : Nat), .bool v] 77)).alloc (.cells #[.int .i64 0] 3) = W := ⟨_, rfl⟩
  have hP : Blk W w.heap.size 77 #[.int .i64 (d : Nat), .bool v] := by rw [← hW]; exact (Blk.new w _ _).alloc _
  have hB : Blk W (w.heap.size + 1) 3 #[.int .i64 ((0 : Nat) : Int)] := by rw [← hW]; have := Blk.new (w.alloc (.cells #[.int .i64 (d : Nat), .bool v] 77)) 3 #[.int .i64 ((0 : Nat) : Int)]; simpa using this
  have hb : Below w.heap.size w W := by rw [← hW]; exact ((Below.refl _ _).alloc (Nat.le_refl _) _).alloc (by simp) _
  have hsz : W.heap.size = w.heap.size + 2 := by rw [← hW]; simp
  have cW := word_kind s g a (w.heap.size + 1) w.heap.size d 0 v W (h.on hb) ha hs hB hP (hK.on hb) (by omega) (by omega) hgk hd
  obtain ⟨l, hl⟩ : ∃ l, D.ns s = l := ⟨_, rfl⟩
  rw [hl] at cW hlen ⊢
  obtain ⟨K, hK⟩ : ∃ K, D.far D.wdB l a = K := ⟨_, rfl⟩
  have hK1 : a ≤ K := hK ▸ D.far_ge _ _ _
  rw [hK] at cW ⊢
  obtain ⟨u, hu⟩ : ∃ u, u = (if K = a then (⟨#[]⟩ : ByteArray) else D.sb (D.sub l a K)) := ⟨_, rfl⟩
  have key : Calls Tryz.prog 125 #[vr g, .func (.func 129) #[] #[vr (w.heap.size + 1), vr w.heap.size]] W fun x w' => x = .returned (.string u) ∧
      Rdr w' g s (D.nx a K (D.kdE d (D.kndT (D.sub l a K)))).1 (D.nx a K (D.kdE d (D.kndT (D.sub l a K)))).2 ∧ Blk w' (w.heap.size + 1) 3 #[.int .i64 (D.kndT (D.sub l a K) : Nat)] ∧ Fr (fun i => i = g ∨ i = w.heap.size + 1) W w' := by
    refine cW.mono fun x w' ⟨f, p, q⟩ => ?_
    by_cases hq : K = a
    · obtain ⟨e, h1, h2⟩ := p hq
      refine ⟨by rw [e, hu, if_pos hq], ?_, ?_, f⟩
      · rw [D.nx, if_pos hq]; exact h1
      · subst hq; rw [sub_nil]; exact h2
    · obtain ⟨e, h1, h2⟩ := q hq
      refine ⟨by rw [e, hu, if_neg hq], ?_, h2, f⟩
      rw [D.nx, if_neg hq]; exact h1
  obtain ⟨p, hp⟩ : ∃ p, D.nx a K (D.kdE d (D.kndT (D.sub l a K))) = p := ⟨_, rfl⟩
  obtain ⟨m, hm⟩ : ∃ m, D.kndT (D.sub l a K) = m := ⟨_, rfl⟩
  rw [hp, hm] at key
  rw [hm] at hp ⊢
  rw [hp]
  obtain ⟨b, f⟩ := p
  simp only at key ⊢
  subst hW
  have KEY := Lib.hid key
  have HB := Lib.hid hb
  clear key hb hp hm hu cW hK hl hK1 hlen h hP hB
  go_enter Tryz.func95, Tryz.ntmps95
  go_wp2_with (go_at_call 125; (with_reducible refine KEY.out.mono ?_); rintro y w1 ⟨rfl, h1_, b1_, f1_⟩; have HR1 := Lib.hid h1_; have HF1 := Lib.hid f1_; have B1 := Lib.hid b1_; have cc := b1_.c_ 0; have ff := b1_.f_; have hlt := b1_.lt; clear h1_ f1_ b1_)
  have hne : g ≠ w.heap.size + 1 := by omega
  refine bodyPost_ret (v := .int .i64 (m : Nat)) (by simp [results, Tryz.results95, go_sem, cc, ff, hlt]) rfl ?_
  have hf9 : Fr (· = w.heap.size + 1) w1 (w1.setCell ⟨w.heap.size + 1, 0, none⟩ (.int .i64 (m : Nat))) := (Fr.refl _ _).setCell _ _ fun _ => rfl
  exact ⟨rfl, HR1.out.fr hf9 hne, (Fr.of_below (S := (· = g)) HB.out (Nat.le_refl _)).trans (HF1.out.step (hf9.mono fun i _ e => Or.inr e)) fun i hi e => by rcases e with e | e; exact e; omega⟩
end Go.Proofs.YtlheaabmpcnchaaGreatDoor
set_option linter.unusedVariables false
set_option linter.unusedSimpArgs false
set_option maxRecDepth 100000
namespace Go.Proofs.YtlheaabmpcnchaaGreatDoor
open Go.RowKit
attribute [local go_sem ↓] Go.wp_at_zero Go.wp_at_succ

/-- A call's answer: parts in blocks of the call's own. -/
def Mt (r : Nat) (o : D.Ot) (w : World) (e : Ending) (w' : World) : Prop :=
  Below w.heap.size w w' ∧ ∃ (A : Option Addr) (n c : Nat), e = .returned (.agg #[.slice A n c, .int .i64 (o.a : Nat), .int .i64 (o.e : Nat)]) ∧ Ms (fun b => w.heap.size ≤ b) w' r (.slice A n c) o.l
theorem D.plI_far {v : Bool} {l : List Nat} {q : Nat} (h : D.plI v (D.atI l q) = true) : q < l.length ∧ D.far (D.plB v) l q = D.far (D.plB v) l (q + 1) := by
  by_cases hq : q < l.length
  · have e : l[q]? = some l[q] := List.getElem?_eq_getElem hq
    rw [D.atI_some e, D.plI_some] at h
    exact ⟨hq, D.far_step e h⟩
  · rw [D.atI_none (by omega), D.plI_none] at h
    cases h
theorem D.plI_stop {v : Bool} {l : List Nat} {q : Nat} (h : D.plI v (D.atI l q) = false) : D.far (D.plB v) l q = q := by
  by_cases hq : q < l.length
  · have e : l[q]? = some l[q] := List.getElem?_eq_getElem hq
    rw [D.atI_some e, D.plI_some] at h
    exact D.far_stop e h
  · exact D.far_end (by omega)
theorem D.atI_is {l : List Nat} {q c : Nat} (h : D.atI l q = c) : l[q]? = some c := by
  unfold D.atI at h
  split at h
  · rename_i d hd; rw [hd]; congr 1; omega
  · omega
theorem D.atI_not {l : List Nat} {q c : Nat} (h : D.atI l q ≠ c) : l[q]? ≠ some c := fun e => h (D.atI_some e)
set_option maxHeartbeats 2000000 in
theorem message_any (s : ByteArray) (r d : Nat) (v : Bool) (p : Nat → D.Ot) (w : World) (hs : s.size ≤ 60)
    (hp : ∀ i W, i ≤ s.size → Calls Tryz.prog 65 #[.string s, .int .i64 i, .int .i64 d, .bool v] W (Mt r (p i) W))
    (hg : ∀ i, i ≤ s.size → (p i).e = 0 → ∃ y, (p i).l = [y] ∧ i < (p i).a ∧ (p i).a ≤ s.size)
    (i0 : Nat) (h0 : i0 ≤ s.size) :
    Calls Tryz.prog 28 #[.string s, .int .i64 i0, .int .i64 d, .bool v] w (Mt r (D.mes (D.ns s) v p (s.size + 1) i0 []) w) := by
  have cA := Lib.hid (fun k W => at_any s k W)
  have cP := Lib.hid hp
  have cG := Lib.hid hg
  have hlen := D.ns_len s
  have HX := Lib.hid (fun i k => ext_sub s i k)
  have H2 := Lib.hid (ns_lt s)
  obtain ⟨l, hl⟩ : ∃ l, D.ns s = l := ⟨_, rfl⟩
  obtain ⟨o, ho⟩ : ∃ o, D.mes l v p (s.size + 1) i0 [] = o := ⟨_, rfl⟩
  rw [hl] at cA hlen HX H2 ⊢
  rw [ho]
  have HO : Kept (D.mes l v p (s.size + 1) i0 [] = o) := ⟨ho⟩
  clear hp hg hl ho
  go_enter Tryz.func28, Tryz.ntmps28
  go_wp2_with fail
  go_loopw [1, 9] (fun i a wr => ∃ (k n c f : Nat) (A : Option Addr) (acc : List D.Nd), k ≤ s.size ∧ i = .int .i64 k ∧ a = .slice A n c ∧ n ≤ k ∧ Kept (s.size < k + f ∧ D.mes l v p f k acc = o) ∧ Ac 84 r (w.heap.size + 1) wr A n c acc ∧ Blk wr w.heap.size 80 #[.slice none 0 0, .int .i64 0, .int .i64 0] ∧ Below w.heap.size w wr) (fun i _ _ => s.size - (intOf i).toNat)
  case atStart => 
    refine ⟨i0, 0, 0, s.size + 1, none, [], h0, rfl, rfl, Nat.zero_le _, ⟨by omega, HO.out⟩, Ac.nil _ _ (by simp), Blk.new _ _ _, (Below.refl _ _).alloc (Nat.le_refl _) _⟩
  case round =>
    obtain ⟨k, n, c, f, A, acc, hk, rfl, rfl, hn, HF, hac, hblk, hbel⟩ := hrel
    obtain ⟨wo, rfl⟩ : ∃ wo : World, wo = wr := ⟨_, rfl⟩
    have HA := Lib.hid hac
    have HB := Lib.hid hblk
    have HZ := Lib.hid hbel
    clear hac hblk hbel
    go_wp2_with fail
    go_loop [10] (fun j => ∃ q : Nat, k ≤ q ∧ q ≤ s.size ∧ j = .int .i64 q ∧ Kept (D.far (D.plB v) l k = D.far (D.plB v) l q)) (fun j => s.size - (intOf j).toNat)
    case atStart => exact ⟨k, Nat.le_refl _, hk, rfl, ⟨rfl⟩⟩
    case round =>
      obtain ⟨q, hkq, hq, rfl, HQ⟩ := hrel
      obtain ⟨x, hx⟩ : ∃ x, D.atI l q = x := ⟨_, rfl⟩
      have CA := Lib.hid (cA.out q)
      rw [hx] at CA
      have CP := Lib.hid (fun W => plain_any x v W)
      cases hb : D.plI v x with
      | true =>
        have h1 := D.plI_far (v := v) (l := l) (q := q) (by rw [hx]; exact hb)
        have HQ' : Kept (D.far (D.plB v) l k = D.far (D.plB v) l (q + 1)) := ⟨HQ.out.trans h1.2⟩
        have hq1 := h1.1
        rw [hb] at CP
        clear h1 hb HQ hx
        go_wp2_with (first
          | (go_at_call 64; (with_reducible refine (CA.out _).mono ?_); rintro e w1 ⟨rfl, rfl⟩)
          | (go_at_call 63; (with_reducible refine (CP.out _).mono ?_); rintro e w1 ⟨rfl, rfl⟩))
        go_round
        case rel => exact ⟨q + 1, by omega, by omega, by go_num, HQ'⟩
        case measure => simp [intOf]; omega
      | false =>
        have h1 := D.plI_stop (v := v) (l := l) (q := q) (by rw [hx]; exact hb)
        have HQ' : Kept (D.far (D.plB v) l k = q) := ⟨HQ.out.trans h1⟩
        rw [hb] at CP
        have HX' : Kept (D.atI l q = x) := ⟨hx⟩
        clear h1 hb HQ hx
        go_upto_if 23 with (first
          | (go_at_call 64; (with_reducible refine (CA.out _).mono ?_); rintro e w1 ⟨rfl, rfl⟩)
          | (go_at_call 63; (with_reducible refine (CP.out _).mono ?_); rintro e w1 ⟨rfl, rfl⟩))
        obtain ⟨X, hX⟩ : ∃ X, (if k < q then acc ++ [D.Nd.mk 0 (D.sub l k q) [] [] []] else acc) = X := ⟨_, rfl⟩
        have HXX := Lib.hid hX
        clear hX
        go_cut [1, 9] from 21 to 32 (fun s1 s9 wx => ∃ (A' : Option Addr) (n' c' : Nat), s1 = .int .i64 q ∧ s9 = .slice A' n' c' ∧ n' ≤ q ∧ Ac 84 r (w.heap.size + 1) wx A' n' c' X ∧ Blk wx w.heap.size 80 #[.slice none 0 0, .int .i64 0, .int .i64 0] ∧ Below w.heap.size w wx)
        case first =>
          by_cases hlt : k < q
          · have hI : (k : Int) < q := by omega
            have hI2 : (q : Int) ≤ s.size := by omega
            have HE : Kept (acc ++ [D.Nd.mk 0 (D.sub l k q) [] [] []] = X) := ⟨by rw [← HXX.out, if_pos hlt]⟩
            have hbt := Lib.hid (sub_lt H2.out k q)
            clear HXX hlt
            go_wp2_with (at_builtin; refine papp rfl (.tmp 24) (.tmp 30) rfl rfl (HA.out.on ((Below.refl _ _).alloc (Nat.le_refl _) _)) rfl (rw_part _ _ rfl (D.Nd.mk 0 (D.sub l k q) [] [] []) (.slice none 0 0) (.slice none 0 0) _ (by simp [pcl, D.Nd.k, D.Nd.t, D.Nd.n, HX.out]; rfl)) rfl rfl (bel_leaf hbt.out (fun _ h => by cases h)) (by omega) ?_; intro A1 c1 w3 h3 hb3 _)
            go_meet
            have hlo : Below (w.heap.size + 1) wo w3 := ((Below.refl _ _).alloc HB.out.lt _).trans hb3
            exact ⟨A1, n + 1, c1, rfl, rfl, by omega, by rw [← HE.out]; exact h3, ⟨(hlo.block _ (by omega)).trans HB.out.out⟩, HZ.out.trans (hlo.mono (by omega))⟩
          · obtain rfl : k = q := by omega
            have HE : Kept (acc = X) := ⟨by rw [← HXX.out, if_neg hlt]⟩
            clear HXX hlt
            go_wp2
            go_meet
            exact ⟨A, n, c, rfl, rfl, hn, by rw [← HE.out]; exact HA.out, HB.out, HZ.out⟩
        case rest =>
          obtain ⟨A2, n2, c2, rfl, rfl, hn2, ha2, hb2, hz2⟩ := hcut
          obtain ⟨g, rfl⟩ : ∃ g, f = g + 1 := ⟨f - 1, by have := HF.out.1; omega⟩
          have HM := Lib.hid (D.mes_eq (l := l) (w := v) (p := p) (f := g) (i := k) (acc := acc) HQ'.out HXX.out)
          have HA2 := Lib.hid ha2
          have HB2 := Lib.hid hb2
          have HZ2 := Lib.hid hz2
          clear HXX ha2 hb2 hz2 HA HB HZ
          by_cases h35 : x = 35
          · subst h35
            have HO' : Kept (D.mes l v p g (q + 1) (X ++ [D.Nd.mk 5 [] [] [] []]) = o) := ⟨by rw [← HF.out.2, HM.out, if_pos (D.atI_is HX'.out)]⟩
            have hfu := HF.out.1
            have hq1 : q < s.size := by
              have := (List.getElem?_eq_some_iff.1 (D.atI_is HX'.out)).1
              omega
            clear HM
            go_wp2_with (first
              | (go_at_call 64; (with_reducible refine (CA.out _).mono ?_); rintro e w1 ⟨rfl, rfl⟩)
              | (at_builtin; refine papp rfl (.tmp 38) (.tmp 40) rfl rfl (HA2.out.on ((Below.refl _ _).alloc (Nat.le_refl _) _)) rfl (rw_part _ _ rfl (D.Nd.mk 5 [] [] [] []) (.slice none 0 0) (.slice none 0 0) _ rfl) rfl rfl (bel_leaf (fun _ h => by cases h) (fun _ h => by cases h)) (by omega) ?_; intro A3 c3 w3 h3 hb3 _))
            go_roundw
            case rel =>
              have hlo : Below (w.heap.size + 1) wc w3 := ((Below.refl _ _).alloc HB2.out.lt _).trans hb3
              exact ⟨q + 1, n2 + 1, c3, g, A3, _, by omega, by go_num, rfl, by omega, ⟨by omega, HO'.out⟩, h3, ⟨(hlo.block _ (by omega)).trans HB2.out.out⟩, HZ2.out.trans (hlo.mono (by omega))⟩
            case measure => simp [intOf]; omega
          · have i35 : (x == 35) = false := by simpa using h35
            by_cases h123 : x = 123
            · subst h123
              have H123 : Kept (l[q]? = some 123) := ⟨D.atI_is HX'.out⟩
              have hq1 : q < s.size := by
                have := (List.getElem?_eq_some_iff.1 H123.out).1
                omega
              have hM2 := HM.out
              rw [if_neg (D.atI_not (c := 35) (by rw [HX'.out]; exact h35)), if_neg (by rw [H123.out]; simp)] at hM2
              have HCP : Hid (∀ W, Calls Tryz.prog 65 #[.string s, .int .i64 ((q : Int) + 1), .int .i64 d, .bool v] W (Mt r (p (q + 1)) W)) := Lib.hid (fun W => cP.out (q + 1) W (by omega))
              have HCG := Lib.hid (cG.out (q + 1) (by omega))
              obtain ⟨y, hy⟩ : ∃ y, p (q + 1) = y := ⟨_, rfl⟩
              rw [hy] at hM2 HCP HCG
              by_cases he : y.e = 0
              · obtain ⟨z, hz, hz1, hz2⟩ := HCG.out he
                have hzl := Lib.hid hz
                have HO' : Kept (D.mes l v p g y.a (X ++ [z]) = o) := ⟨by rw [← HF.out.2, hM2, if_neg (by simpa using he), hz]; rfl⟩
                have ie : ((y.e : Int) != 0) = false := by simp; exact he
                have hfu := HF.out.1
                clear hM2 he hy HM HCG hz
                go_wp2_with (first
                  | (go_at_call 64; (with_reducible refine (CA.out _).mono ?_); rintro e w1 ⟨rfl, rfl⟩)
                  | (go_at_call 65; (with_reducible refine (HCP.out _).mono ?_); rintro e w1 ⟨hb4, A4, n4, c4, rfl, hm4⟩
                     obtain ⟨ad, m4, c5, A5, n5, c6, A6, n6, c7, e5, hlt5, k0, k1, k2, k3, k4, hB⟩ := ms_first (by rw [← hzl.out]; exact hm4)
                     cases e5
                     have HB := Lib.hid hB
                     have HB4 := Lib.hid hb4
                     have HA4 := Lib.hid (HA2.out.on hb4)
                     have B4 := Lib.hid (HB2.out.on hb4)
                     clear hm4 hb4 hB
                     have h4 := B4.out.lt
                     have i5 : (0 : Int) < (m4 : Int) + 1 := by omega)
                  | (at_builtin; refine papp rfl (.tmp 59) (.tmp 64) rfl rfl ((HA4.out.on ((Below.refl _ _).alloc (Nat.le_refl _) _)).on ((Below.refl _ _).alloc (Nat.le_refl _) _)) rfl (rw_part (w1.alloc _) _ (by simp) z (.slice A5 n5 c6) (.slice A6 n6 c7) _ rfl) rfl rfl
                      (((HB.out.keep (keeps_below ((Below.refl _ _).alloc (Nat.le_refl _) _))).keep (keeps_below ((Below.refl _ _).alloc (Nat.le_refl _) _))).weaken fun b _ hb => ⟨Nat.le_trans HB2.out.lt hb, fun e => Nat.lt_irrefl _ (Nat.lt_of_lt_of_le (HA2.out.own_lt b e).2 hb)⟩) (by omega) ?_; intro A3 c3 w3 h3 hb3 hg3
                     have B5 := ((Blk.new w1 80 #[.slice (some ad) (m4 + 1) c4, .int .i64 (y.a : Nat), .int .i64 (y.e : Nat)]).alloc _).grown hg3 (fun e => Nat.lt_irrefl _ (Nat.lt_of_lt_of_le (HA2.out.own_lt _ e.symm).2 HB4.out.size))
                     have cc := B5.c 1))
                go_roundw
                case rel =>
                  have hlo : Below (w.heap.size + 1) wc w3 := (((HB4.out.mono HB2.out.lt).alloc (by omega) _).alloc (by simp; omega) _).trans hb3
                  exact ⟨y.a, n2 + 1, c3, g, A3, _, by omega, rfl, rfl, by omega, ⟨by omega, HO'.out⟩, h3, ⟨(hlo.block _ (by omega)).trans HB2.out.out⟩, HZ2.out.trans (hlo.mono (by omega))⟩
                case measure => simp [intOf]; omega
              · have HO' : Kept (o = y) := ⟨by rw [← HF.out.2, hM2, if_pos he]⟩
                have ie : ((y.e : Int) != 0) = true := by simp; exact he
                clear hM2 he hy HM HCG
                go_wp2_with (first
                  | (go_at_call 64; (with_reducible refine (CA.out _).mono ?_); rintro e w1 ⟨rfl, rfl⟩)
                  | (go_at_call 65; (with_reducible refine (HCP.out _).mono ?_); rintro e w1 ⟨hb4, A4, n4, c4, rfl, hm4⟩; have HM4 := Lib.hid hm4; have HB4 := Lib.hid hb4; have B4 := Lib.hid (HB2.out.on hb4); clear hm4 hb4; have cc := B4.out.c; have cf := B4.out.f; have h4 := B4.out.lt))
                refine bodyPost_ret (v := .agg #[.slice A4 n4 c4, .int .i64 y.a, .int .i64 y.e]) (by simp [results, Tryz.results28, go_sem, cc, cf, h4]) rfl ⟨((((HZ2.out.trans (HB4.out.mono HZ2.out.size)).setCell (by simp) _).setCell (by simp) _).setCell (by simp) _).alloc (by simp; omega) _, A4, n4, c4, by rw [HO'.out], ?_⟩
                rw [HO'.out]
                have hw := HB2.out.lt
                exact ((((HM4.out.keep (keeps_setCell _ _ _ fun b hb => by simp; omega)).keep (keeps_setCell _ _ _ fun b hb => by simp; omega)).keep (keeps_setCell _ _ _ fun b hb => by simp; omega)).keep (keeps_below ((Below.refl _ _).alloc (Nat.le_refl _) _))).weaken fun b _ hb => by omega
            · have i123 : (x != 123) = true := by simpa using h123
              have HO' : Kept (o = ⟨X, q, 0⟩) := ⟨by rw [← HF.out.2, HM.out, if_neg (D.atI_not (c := 35) (by rw [HX'.out]; exact h35)), if_pos (D.atI_not (c := 123) (by rw [HX'.out]; exact h123))]⟩
              have cc := HB2.out.c
              have cf := HB2.out.f
              clear HM
              go_wp2_with (go_at_call 64; (with_reducible refine (CA.out _).mono ?_); rintro e w1 ⟨rfl, rfl⟩)
              refine bodyPost_ret (v := .agg #[.slice A2 n2 c2, .int .i64 q, .int .i64 0]) (by simp [results, Tryz.results28, go_sem, cc, cf]) rfl ⟨((HZ2.out.setCell (by simp) _).setCell (by simp) _).setCell (by simp) _, A2, n2, c2, by rw [HO'.out]; rfl, ?_⟩
              rw [HO'.out]
              exact (((HA2.out.done.keep (keeps_setCell _ _ _ fun b hb => by simp; omega)).keep (keeps_setCell _ _ _ fun b hb => by simp; omega)).keep (keeps_setCell _ _ _ fun b hb => by simp; omega)).weaken fun b _ hb => by omega
end Go.Proofs.YtlheaabmpcnchaaGreatDoor
