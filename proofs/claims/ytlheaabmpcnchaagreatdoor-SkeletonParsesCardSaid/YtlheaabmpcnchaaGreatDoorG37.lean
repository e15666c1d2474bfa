/-
  The document's place and message, at every depth; what is read of a text.
  The document's Parse.
  The program's Less; the document's Less, Is, Pad, Text.
-/
import Derived.Test.YtlheaabmpcnchaaGreatDoorSpc
import Derived.Test.YtlheaabmpcnchaaGreatDoorSpd
import Derived.BigQuiet
import Derived.Test.YtlheaabmpcnchaaGreatDoorG20
import Derived.Test.YtlheaabmpcnchaaGreatDoorG12
import Derived.Sort.Grow
import Derived.Deep.Light
set_option linter.unusedVariables false
set_option linter.unusedSimpArgs false
set_option maxRecDepth 100000
namespace Go.Proofs.YtlheaabmpcnchaaGreatDoor
open Go.RowKit

theorem D.plc_eq {l : List Nat} {m : Bool → Nat → D.Ot} {deep w : Bool} {i K J Q : Nat} (hK : D.far D.wdB l i = K) (hJ : D.far (· == 32) l (K + 1) = J) (hQ : D.far D.wdB l J = Q) : D.plc l m deep w i =
    (if K = i then D.er_ i 3
    else if Nm.D.isB (D.sub l i K) = false then D.er_ i 15
    else if l[K]? = some 125 then (⟨[.mk 1 [] (D.sub l i K) [] []], K + 1, 0⟩ : D.Ot)
    else if l[K]? ≠ some 44 then D.er_ K 3
    else if Q = J then D.er_ J 3
    else if D.kndT (D.sub l J Q) = 0 then D.er_ J 16
    else if D.kndT (D.sub l J Q) = 2 then (if l[Q]? ≠ some 125 then D.er_ Q 3 else (⟨[.mk 2 [] (D.sub l i K) [] []], Q + 1, 0⟩ : D.Ot))
    else if deep then D.er_ J 19
    else if l[Q]? ≠ some 44 then D.er_ Q 3
    else D.cas l (D.kndT (D.sub l J Q)) (D.sub l i K) (m (w || D.kndT (D.sub l J Q) == 3)) (l.length + 1) (D.far (· == 32) l (Q + 1)) [] []) := by
  subst hK hJ hQ
  rfl
theorem knd_t {t : List Nat} : (D.kndT t = 2 → t = D.numT) ∧ (D.kndT t = 3 → t = D.pluT) ∧ (D.kndT t = 4 → t = D.selT) := by
  unfold D.kndT
  by_cases h1 : t = D.numT
  · rw [if_pos h1]; exact ⟨fun _ => h1, fun h => by omega, fun h => by omega⟩
  · rw [if_neg h1]
    by_cases h2 : t = D.pluT
    · rw [if_pos h2]; exact ⟨fun h => by omega, fun _ => h2, fun h => by omega⟩
    · rw [if_neg h2]
      by_cases h3 : t = D.selT
      · rw [if_pos h3]; exact ⟨fun h => by omega, fun h => by omega, fun _ => h3⟩
      · rw [if_neg h3]; exact ⟨fun h => by omega, fun h => by omega, fun h => by omega⟩
theorem place_gen (s : ByteArray) (l : List Nat) (hl : D.ns s = l) (hs : s.size ≤ 60) (d r : Nat) (m : Bool → Nat → D.Ot) (dp : Bool) (hd : dp = true → 3 ≤ d)
    (hm : dp = false → d < 3 ∧ ∃ r', r = r' + 1 ∧ (∀ v q W, q ≤ s.size → Calls Tryz.prog 28 #[.string s, .int .i64 q, .int .i64 ((d : Int) + 1), .bool v] W (Mt r' (m v q) W)) ∧ ∀ v q, q ≤ s.size → (m v q).e = 0 → q ≤ (m v q).a ∧ (m v q).a ≤ s.size)
    (i : Nat) (hi : i ≤ s.size) (v : Bool) (w : World) : Calls Tryz.prog 65 #[.string s, .int .i64 i, .int .i64 d, .bool v] w (Mt r (D.plc l m dp v i) w) := by
  obtain ⟨K, hK⟩ : ∃ K, D.far D.wdB l i = K := ⟨_, rfl⟩
  obtain ⟨J, hJ⟩ : ∃ J, D.far (· == 32) l (K + 1) = J := ⟨_, rfl⟩
  obtain ⟨Q, hQ⟩ : ∃ Q, D.far D.wdB l J = Q := ⟨_, rfl⟩
  obtain ⟨o, ho⟩ : ∃ o, D.plc l m dp v i = o := ⟨_, rfl⟩
  rw [ho]
  rw [D.plc_eq hK hJ hQ] at ho
  by_cases h1 : K = i
  · rw [if_pos h1] at ho
    exact place_1 s l hl hs i d hi v r o w K hK h1 ho.symm
  rw [if_neg h1] at ho
  by_cases h2 : Nm.D.isB (D.sub l i K) = false
  · rw [if_pos h2] at ho
    exact place_2 s l hl hs i d hi v r o w K hK h1 h2 ho.symm
  rw [if_neg h2] at ho
  have h2 : Nm.D.isB (D.sub l i K) = true := by simpa using h2
  by_cases h3 : l[K]? = some 125
  · rw [if_pos h3] at ho
    exact place_3 s l hl hs i d hi v r o w K hK h1 h2 h3 ho.symm
  rw [if_neg h3] at ho
  by_cases h4 : l[K]? ≠ some 44
  · rw [if_pos h4] at ho
    exact place_4 s l hl hs i d hi v r o w K hK h1 h2 h3 h4 ho.symm
  rw [if_neg h4] at ho
  have h4 : l[K]? = some 44 := by simpa using h4
  by_cases h5 : Q = J
  · rw [if_pos h5] at ho
    exact place_5 s l hl hs i d hi v r o w K hK h1 h2 h4 J Q hJ hQ h5 ho.symm
  rw [if_neg h5] at ho
  obtain ⟨t2, t3, t4⟩ := knd_t (t := D.sub l J Q)
  rcases D.knd_cases (D.sub l J Q) with h6 | h6 | h6 | h6
  · rw [if_pos h6] at ho
    exact place_6 s l hl hs i d hi v r o w K hK h1 h2 h4 J Q hJ hQ h5 h6 ho.symm
  · rw [h6, if_neg (by omega), if_pos rfl] at ho
    by_cases h7 : l[Q]? = some 125
    · rw [if_neg (by simp [h7])] at ho
      exact place_8 s l hl hs i d hi v r o w K hK h1 h2 h4 J Q hJ hQ h5 (t2 h6) h7 ho.symm
    · rw [if_pos h7] at ho
      exact place_7 s l hl hs i d hi v r o w K hK h1 h2 h4 J Q hJ hQ h5 (t2 h6) h7 ho.symm
  · rw [h6, if_neg (by omega), if_neg (by omega)] at ho
    cases dp with
    | true =>
      rw [if_pos rfl] at ho
      exact place_9_3 s l hl hs i d hi v r o w K hK h1 h2 h4 J Q hJ hQ h5 (t3 h6) (hd rfl) ho.symm
    | false =>
      rw [if_neg (by simp)] at ho
      obtain ⟨hd3, r', rfl, hm1, hm2⟩ := hm rfl
      by_cases h8 : l[Q]? = some 44
      · rw [if_neg (by simp [h8]), show (v || (3 : Nat) == 3) = true by simp] at ho
        exact place_c3 s l hl hs i d hi v r' o w K hK h1 h2 h4 J Q hJ hQ h5 (t3 h6) hd3 h8 (m true) (fun q W hq => hm1 true q W hq) (fun q hq => hm2 true q hq) ho
      · rw [if_pos h8] at ho
        exact place_10_3 s l hl hs i d hi v (r' + 1) o w K hK h1 h2 h4 J Q hJ hQ h5 (t3 h6) hd3 h8 ho.symm
  · rw [h6, if_neg (by omega), if_neg (by omega)] at ho
    cases dp with
    | true =>
      rw [if_pos rfl] at ho
      exact place_9_4 s l hl hs i d hi v r o w K hK h1 h2 h4 J Q hJ hQ h5 (t4 h6) (hd rfl) ho.symm
    | false =>
      rw [if_neg (by simp)] at ho
      obtain ⟨hd3, r', rfl, hm1, hm2⟩ := hm rfl
      by_cases h8 : l[Q]? = some 44
      · rw [if_neg (by simp [h8]), show (v || (4 : Nat) == 3) = v by simp] at ho
        exact place_c4 s l hl hs i d hi v r' o w K hK h1 h2 h4 J Q hJ hQ h5 (t4 h6) hd3 h8 (m v) (fun q W hq => hm1 v q W hq) (fun q hq => hm2 v q hq) ho
      · rw [if_pos h8] at ho
        exact place_10_4 s l hl hs i d hi v (r' + 1) o w K hK h1 h2 h4 J Q hJ hQ h5 (t4 h6) hd3 h8 ho.symm
theorem msg_any (s : ByteArray) (hs : s.size ≤ 60) : ∀ (r d : Nat), d + r = 3 → ∀ (v : Bool) (i : Nat) (w : World), i ≤ s.size →
    Calls Tryz.prog 28 #[.string s, .int .i64 i, .int .i64 d, .bool v] w (Mt r (D.msg (D.ns s) r v i) w)
  | 0, d, hd, v, i, w, hi => by
    have hlen := D.ns_len s
    rw [D.msg, show (D.ns s).length + 1 = s.size + 1 by rw [hlen]]
    refine message_any s 0 d v _ w hs (fun q W hq => place_gen s _ rfl hs d 0 _ true (fun _ => by omega) (fun h => by cases h) q hq v W) (fun q hq he => ?_) i hi
    obtain ⟨x, e1, _, _, e4, e5⟩ := D.plc_good (l := D.ns s) (m := fun _ i => D.er_ i 19) (deep := true) (w := v) (P := fun _ _ => False) (fun h => by cases h) q (by rw [hlen]; exact hq) he
    exact ⟨x, e1, e4, by rw [← hlen]; exact e5⟩
  | r + 1, d, hd, v, i, w, hi => by
    have hlen := D.ns_len s
    rw [D.msg, show (D.ns s).length + 1 = s.size + 1 by rw [hlen]]
    refine message_any s (r + 1) d v _ w hs (fun q W hq => place_gen s _ rfl hs d (r + 1) _ false (fun h => by cases h) (fun _ => ⟨by omega, r, rfl, fun v' q' W' hq' => msg_any s hs r (d + 1) (by omega) v' q' W' hq', fun v' q' hq' he => ?_⟩) q hq v W) (fun q hq he => ?_) i hi
    · obtain ⟨_, e1, e2⟩ := D.msg_good (D.ns s) r v' q' (by rw [hlen]; exact hq') he
      exact ⟨e1, by rw [← hlen]; exact e2⟩
    · obtain ⟨x, e1, _, _, e4, e5⟩ := D.plc_good (l := D.ns s) (m := D.msg (D.ns s) r) (deep := false) (w := v) (P := D.Rt r) (fun _ v' i' hi' => D.msg_good (D.ns s) r v' i' hi') q (by rw [hlen]; exact hq) he
      exact ⟨x, e1, e4, by rw [← hlen]; exact e5⟩
end Go.Proofs.YtlheaabmpcnchaaGreatDoor
set_option linter.unusedVariables false
set_option linter.unusedSimpArgs false
set_option maxRecDepth 100000
namespace Go.Proofs.YtlheaabmpcnchaaGreatDoor
open Go.RowKit
attribute [local go_sem ↓] Go.wp_at_zero Go.wp_at_succ

theorem bel_dn_ {B : Nat} {w w' : World} (h : Below B w w') (n : Nat) : Below B w (w'.drewN n) := h.trans ⟨rfl, rfl, rfl, Nat.le_refl _, fun _ _ => rfl⟩
/-- What the document's Parse leaves. -/
def Mtp (o : D.Ot) (w : World) (x : Ending) (w' : World) : Prop :=
  Below w.heap.size w w' ∧ ∃ (A : Option Addr) (n c : Nat), x = .returned (.tuple #[.slice A n c, .int .i64 (o.a : Nat), .int .i64 (o.e : Nat)]) ∧ Ms (fun b => w.heap.size ≤ b) w' 3 (.slice A n c) o.l
theorem Ms.nil_ (F : Nat → Prop) (w : World) (r : Nat) (A : Option Addr) (c : Nat) : Ms F w r (.slice A 0 c) [] := (Ms_eq F w r _ _).2 ⟨A, 0, c, [], rfl, Nat.zero_le _, RF.nil _ _ _ _, rfl, fun i x a b h => by simp at h⟩
set_option maxHeartbeats 4000000 in
theorem refparse_any (s : ByteArray) (w : World) (hm : s.size ≤ 1000) : Calls Tryz.prog 9 #[.string s] w (Mtp (D.rdM (D.ns s)) w) := by
  have hlen := D.ns_len s
  by_cases hs : s.size ≤ 60
  · have cM : Hid (Calls Tryz.prog 28 #[.string s, .int .i64 0, .int .i64 0, .bool false] w (Mt 3 (D.msg (D.ns s) 3 false 0) w)) := Lib.hid (msg_any s hs 3 0 rfl false 0 w (Nat.zero_le _))
    have hI : ¬ (60 : Int) < s.size := by omega
    have hI' : (s.size : Int) ≤ 60 := by omega
    obtain ⟨O, hO⟩ : ∃ O, D.rdM (D.ns s) = O := ⟨_, rfl⟩
    rw [hO]
    unfold D.rdM at hO
    rw [if_neg (by omega)] at hO
    dsimp only at hO
    rw [hlen] at hO
    obtain ⟨o, ho⟩ : ∃ o, D.msg (D.ns s) 3 false 0 = o := ⟨_, rfl⟩
    rw [ho] at cM hO
    clear ho hlen
    by_cases he : o.e = 0
    · have iE : ((o.e : Int) == 0) = true := by simp; exact he
      have iE2 : ((o.e : Int) != 0) = false := by simp; exact he
      by_cases hlt : o.a < s.size
      · have iL : (o.a : Int) < s.size := by omega
        rw [if_neg (by simpa using he), if_pos hlt] at hO
        have HO := Kept.mk hO
        clear hO he
        go_enter Tryz.func9, Tryz.ntmps9
        go_wp2_with (go_at_call 28; (with_reducible refine cM.out.mono ?_); rintro x w1 ⟨b1, A, n, c, rfl, m1⟩
                     have B1 := Lib.hid b1
                     clear b1 m1)
        go_quiet (fail)
        go_wp2_with fail
        refine bodyPost_ret (v := .tuple #[.slice none 0 0, .int .i64 (o.a : Nat), .int .i64 3]) (by simp [results, Tryz.results9, go_sem]) rfl ?_
        refine ⟨?_, none, 0, 0, by rw [← HO.out]; rfl, by rw [← HO.out]; exact Ms.nil_ _ _ _ _ _⟩
        have hz := B1.out.size
        exact bel_dn_ (B1.out.alloc hz _) _
      · have iL : ¬ (o.a : Int) < s.size := by omega
        have iL' : (s.size : Int) ≤ o.a := by omega
        rw [if_neg (by simpa using he), if_neg hlt] at hO
        have HO := Kept.mk hO
        clear hO he
        go_enter Tryz.func9, Tryz.ntmps9
        go_wp2_with (go_at_call 28; (with_reducible refine cM.out.mono ?_); rintro x w1 ⟨b1, A, n, c, rfl, m1⟩
                     have B1 := Lib.hid b1
                     have M1 := Lib.hid m1
                     clear b1 m1)
        refine bodyPost_ret (v := .tuple #[.slice A n c, .int .i64 0, .int .i64 0]) (by simp [results, Tryz.results9, go_sem]) rfl ?_
        refine ⟨B1.out.alloc B1.out.size _, A, n, c, by rw [← HO.out]; rfl, by rw [← HO.out]; exact M1.out.keep (keeps_below (below_alloc_ _ _))⟩
    · have iE : ((o.e : Int) == 0) = false := by simp; exact he
      have iE2 : ((o.e : Int) != 0) = true := by simp; exact he
      rw [if_pos he] at hO
      have HO := Kept.mk hO
      clear hO he
      go_enter Tryz.func9, Tryz.ntmps9
      go_wp2_with (go_at_call 28; (with_reducible refine cM.out.mono ?_); rintro x w1 ⟨b1, A, n, c, rfl, m1⟩
                   have B1 := Lib.hid b1
                   clear b1 m1)
      go_quiet (fail)
      go_wp2_with fail
      refine bodyPost_ret (v := .tuple #[.slice none 0 0, .int .i64 (o.a : Nat), .int .i64 (o.e : Nat)]) (by simp [results, Tryz.results9, go_sem]) rfl ?_
      refine ⟨?_, none, 0, 0, by rw [← HO.out]; rfl, by rw [← HO.out]; exact Ms.nil_ _ _ _ _ _⟩
      exact bel_dn_ (B1.out.alloc B1.out.size _) _
  · have hI : (60 : Int) < s.size := by omega
    have hO : D.rdM (D.ns s) = D.er_ 0 2 := by unfold D.rdM; rw [if_pos (by omega)]
    rw [hO]
    clear hO hlen
    go_enter Tryz.func9, Tryz.ntmps9
    go_wp2
    refine bodyPost_ret (v := .tuple #[.slice none 0 0, .int .i64 0, .int .i64 2]) (by simp [results, Tryz.results9, go_sem]) rfl ?_
    exact ⟨Below.refl _ _, none, 0, 0, rfl, Ms.nil_ _ _ _ _ _⟩
end Go.Proofs.YtlheaabmpcnchaaGreatDoor
set_option linter.unusedVariables false
set_option linter.unusedSimpArgs false
set_option maxRecDepth 100000
namespace Go.Proofs.YtlheaabmpcnchaaGreatDoor.Nm
open Go.RowKit Go.Sort
attribute [local go_sem ↓] Go.wp_at_zero Go.wp_at_succ ld_a ld_n st_a st_n eq_a eq_n ne_a ne_n lv_a lv_n
attribute [local go_sem] run_ld_a run_ld_n run_st_n run_eq_a run_eq_n run_ne_a run_ne_n run_lv_a run_lv_n st_z ne_z rd_new rd_old rd_drew rd_drewN

theorem nm_at (x : D.Nm) {j : Nat} (h : j < 12) : ∃ b, x.l[j]? = some b ∧ b < 256 := ⟨x.l[j]'(by rw [x.len]; exact h), List.getElem?_eq_getElem _, x.lt _ (List.getElem_mem _)⟩
theorem blk_at {w : World} {g : Nat} {t : TypeId} {x : D.Nm} {j b : Nat} (h : Blk w g t (nc x)) (hb : x.l[j]? = some b) : w.cell? ⟨g, j, none⟩ = some (.int .u8 b) := by
  rw [h.c j]
  simp [nc, bys, hb]
end Go.Proofs.YtlheaabmpcnchaaGreatDoor.Nm
