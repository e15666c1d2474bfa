/-
  
-/
import Derived.Test.YtjlaffgbmcpldaaGreatDoorG16
import Derived.Laws.StructEq
import Derived.Test.YtjlaffgbmcpldaaGreatDoorG11
import Derived.IntWalk
import Derived.BigQuiet
import Derived.Deep.CutRange
import Derived.Deep.Light
import Derived.Test.YtjlaffgbmcpldaaGreatDoorG10
import Derived.Test.YtjlaffgbmcpldaaGreatDoorG09
set_option linter.unusedVariables false
set_option linter.unusedSimpArgs false
set_option maxRecDepth 100000
namespace Go.Proofs.YtjlaffgbmcpldaaGreatDoor
open Go.RowKit
attribute [local go_sem ↓] Go.wp_at_zero Go.wp_at_succ

theorem act_w0 (b : Nat) : (aS.v (actW b))[0]? = some (.func (.func 150) #[] #[.pointer (some ⟨b, 0, none⟩)]) := rfl
theorem act_w1 (b : Nat) : (aS.v (actW b))[1]? = some (.func (.func 151) #[] #[]) := rfl
theorem act_w2 (b : Nat) : (aS.v (actW b))[2]? = some (.func (.func 152) #[] #[.pointer (some ⟨b, 0, none⟩)]) := rfl
theorem act_w3 (b : Nat) : (aS.v (actW b))[3]? = some (.func (.func 153) #[] #[]) := rfl
theorem act_w4 (b : Nat) : (aS.v (actW b))[4]? = some (.func (.func 154) #[] #[.pointer (some ⟨b, 0, none⟩)]) := rfl
attribute [local go_sem] act_w0 act_w1 act_w2 act_w3 act_w4
theorem Wg.on {w w' : World} {h hb g : Nat} (k : Wg w h hb g) (b : Below w.heap.size w w') : Wg w' h hb g := ⟨k.b1.on b, k.b2.on b⟩
theorem EB.on {w w' : World} {g e : Nat} (k : EB w g e) (b : Below w.heap.size w w') : EB w' g e := Blk.on k b
theorem below_dr (w : World) : Below w.heap.size w w.drew := (Below.refl _ _).drew
def Ew (p g : Nat) (b : Bool) (e' : Nat) (y : D.Rc) (w : World) (en : Ending) (w' : World) : Prop := en = .returned (.bool b) ∧ EB w' g e' ∧ RBh w' p y ∧ Only (Pg p g) w w'
set_option maxHeartbeats 2000000 in
theorem each_w1 (p g h hb s u pp m v a : Nat) (b : Bool) (t : ByteArray) (w : World) (hw : Wg w h hb g) (hp : RBh w p ⟨1, s, u, pp, m, b, v, a, t⟩) (he : EB w g 0) :
  Calls Tryz.prog 117 #[.pointer (some ⟨p, 0, none⟩), .agg (aS.v (actW hb))] w (Ew p g true (D.inn u 0 15) ⟨1, s, 0, pp, m, b, v, a, t⟩ w) := by
 have ck : w.cell? ⟨p, 0, none⟩ = some (.int .u8 1) := (rf_of hp.rd).1
 have lp : p < w.heap.size := Blk.lt hp
 have n1 : w.heap.size ≠ p := Nat.ne_of_gt (Blk.lt hp)
 have n2 : w.heap.size ≠ g := Nat.ne_of_gt (Blk.lt he)
 have HN : Hid (¬ Pg p g w.heap.size) := Lib.hid (by rintro (h | h); exact n1 h; exact n2 h)
 have C1 : Hid (∀ W, Wg W h hb g → RBh W p ⟨1, s, u, pp, m, b, v, a, t⟩ → EB W g (0) → Calls Tryz.prog 150 #[.pointer (some ⟨p, 2, none⟩), .int .u8 0, .int .u8 15, .pointer (some ⟨hb, 0, none⟩)] W (Wd p g (D.fst2 (0) (D.inn u 0 15)) ⟨1, s, 0, pp, m, b, v, a, t⟩ W)) := Lib.hid (fun W q1 q2 q3 => weigh_small p g h hb (0) 2 u 0 15 _ _ W q1 q2 q3 ((rf_of (RBh.rd q2)).2.2.1) ⟨rfl⟩)
 have HW := Lib.hid hw
 have HP := Lib.hid hp
 have HE := Lib.hid he
 clear hw hp he n1 n2
 go_enter Tryz.func117, Tryz.ntmps117
 go_wp2_with fail
 have X00 := Blk.new w 233 (aS.v (actW hb))
 have B00 := below_alloc w (.cells (aS.v (actW hb)) 233)
 generalize w.alloc (.cells (aS.v (actW hb)) 233) = W0 at X00 B00 ⊢
 have x0 := (X00.c 0).trans (act_w0 hb)
 have X0 := Lib.hid (X00.drew)
 have B0 := Lib.hid (B00.trans ((below_dr W0).mono B00.size))
 clear X00 B00
 go_still_tail 5, (by kernel_rfl)
 change wpList _ _ _ _ _ (World.drew _)
 go_wp2_with (go_at_call 150; (with_reducible refine (C1.out _ (HW.out.on B0.out) (HP.out.on B0.out) (HE.out.on B0.out)).mono ?_); rintro en w1 ⟨rfl, e1, p1, k1⟩; have W1 := Lib.hid (Wg.only (HW.out.on B0.out) (HE.out.on B0.out) (HP.out.on B0.out) k1); have K1 := Lib.hid (Only.off B0.out k1); have X1 := Lib.hid (Blk.only X0.out k1 HN.out); have E1 := Lib.hid e1; have P1 := Lib.hid p1; clear e1 p1 k1)
 go_ret
 exact ⟨rfl, E1.out, P1.out, K1.out⟩
set_option maxHeartbeats 2000000 in
theorem each_w2 (p g h hb s u pp m v a : Nat) (b : Bool) (t : ByteArray) (w : World) (hw : Wg w h hb g) (hp : RBh w p ⟨2, s, u, pp, m, b, v, a, t⟩) (he : EB w g 0) :
  Calls Tryz.prog 117 #[.pointer (some ⟨p, 0, none⟩), .agg (aS.v (actW hb))] w (Ew p g true (D.inn m 1 63) ⟨2, s, u, pp, 0, b, v, a, t⟩ w) := by
 have ck : w.cell? ⟨p, 0, none⟩ = some (.int .u8 2) := (rf_of hp.rd).1
 have lp : p < w.heap.size := Blk.lt hp
 have n1 : w.heap.size ≠ p := Nat.ne_of_gt (Blk.lt hp)
 have n2 : w.heap.size ≠ g := Nat.ne_of_gt (Blk.lt he)
 have HN : Hid (¬ Pg p g w.heap.size) := Lib.hid (by rintro (h | h); exact n1 h; exact n2 h)
 have C1 : Hid (∀ W, Wg W h hb g → RBh W p ⟨2, s, u, pp, m, b, v, a, t⟩ → EB W g (0) → Calls Tryz.prog 150 #[.pointer (some ⟨p, 4, none⟩), .int .u8 1, .int .u8 63, .pointer (some ⟨hb, 0, none⟩)] W (Wd p g (D.fst2 (0) (D.inn m 1 63)) ⟨2, s, u, pp, 0, b, v, a, t⟩ W)) := Lib.hid (fun W q1 q2 q3 => weigh_small p g h hb (0) 4 m 1 63 _ _ W q1 q2 q3 ((rf_of (RBh.rd q2)).2.2.2.2.1) ⟨rfl⟩)
 have HW := Lib.hid hw
 have HP := Lib.hid hp
 have HE := Lib.hid he
 clear hw hp he n1 n2
 go_enter Tryz.func117, Tryz.ntmps117
 go_wp2_with fail
 have X00 := Blk.new w 233 (aS.v (actW hb))
 have B00 := below_alloc w (.cells (aS.v (actW hb)) 233)
 generalize w.alloc (.cells (aS.v (actW hb)) 233) = W0 at X00 B00 ⊢
 have x0 := (X00.c 0).trans (act_w0 hb)
 have X0 := Lib.hid (X00.drew)
 have B0 := Lib.hid (B00.trans ((below_dr W0).mono B00.size))
 clear X00 B00
 go_still_tail 5, (by kernel_rfl)
 change wpList _ _ _ _ _ (World.drew _)
 go_wp2_with (go_at_call 150; (with_reducible refine (C1.out _ (HW.out.on B0.out) (HP.out.on B0.out) (HE.out.on B0.out)).mono ?_); rintro en w1 ⟨rfl, e1, p1, k1⟩; have W1 := Lib.hid (Wg.only (HW.out.on B0.out) (HE.out.on B0.out) (HP.out.on B0.out) k1); have K1 := Lib.hid (Only.off B0.out k1); have X1 := Lib.hid (Blk.only X0.out k1 HN.out); have E1 := Lib.hid e1; have P1 := Lib.hid p1; clear e1 p1 k1)
 go_ret
 exact ⟨rfl, E1.out, P1.out, K1.out⟩
set_option maxHeartbeats 2000000 in
theorem each_w4 (p g h hb s u pp m v a : Nat) (b : Bool) (t : ByteArray) (w : World) (hw : Wg w h hb g) (hp : RBh w p ⟨4, s, u, pp, m, b, v, a, t⟩) (he : EB w g 0) :
  Calls Tryz.prog 117 #[.pointer (some ⟨p, 0, none⟩), .agg (aS.v (actW hb))] w (Ew p g true (D.fst2 (D.inn pp 0 3) (D.inn s 0 1)) ⟨4, 0, u, 0, m, b, v, 0, t⟩ w) := by
 have ck : w.cell? ⟨p, 0, none⟩ = some (.int .u8 4) := (rf_of hp.rd).1
 have lp : p < w.heap.size := Blk.lt hp
 have n1 : w.heap.size ≠ p := Nat.ne_of_gt (Blk.lt hp)
 have n2 : w.heap.size ≠ g := Nat.ne_of_gt (Blk.lt he)
 have HN : Hid (¬ Pg p g w.heap.size) := Lib.hid (by rintro (h | h); exact n1 h; exact n2 h)
 have C1 : Hid (∀ W, Wg W h hb g → RBh W p ⟨4, s, u, pp, m, b, v, a, t⟩ → EB W g (0) → Calls Tryz.prog 150 #[.pointer (some ⟨p, 3, none⟩), .int .u8 0, .int .u8 3, .pointer (some ⟨hb, 0, none⟩)] W (Wd p g (D.fst2 (0) (D.inn pp 0 3)) ⟨4, s, u, 0, m, b, v, a, t⟩ W)) := Lib.hid (fun W q1 q2 q3 => weigh_small p g h hb (0) 3 pp 0 3 _ _ W q1 q2 q3 ((rf_of (RBh.rd q2)).2.2.2.1) ⟨rfl⟩)
 have C2 : Hid (∀ W, Wg W h hb g → RBh W p ⟨4, s, u, 0, m, b, v, a, t⟩ → EB W g (D.fst2 (0) (D.inn pp 0 3)) → Calls Tryz.prog 150 #[.pointer (some ⟨p, 1, none⟩), .int .u8 0, .int .u8 1, .pointer (some ⟨hb, 0, none⟩)] W (Wd p g (D.fst2 (D.fst2 (0) (D.inn pp 0 3)) (D.inn s 0 1)) ⟨4, 0, u, 0, m, b, v, a, t⟩ W)) := Lib.hid (fun W q1 q2 q3 => weigh_small p g h hb (D.fst2 (0) (D.inn pp 0 3)) 1 s 0 1 _ _ W q1 q2 q3 ((rf_of (RBh.rd q2)).2.1) ⟨rfl⟩)
 have C3 : Hid (∀ W, Wg W h hb g → RBh W p ⟨4, 0, u, 0, m, b, v, a, t⟩ → EB W g (D.fst2 (D.fst2 (0) (D.inn pp 0 3)) (D.inn s 0 1)) → Calls Tryz.prog 153 #[.pointer (some ⟨p, 7, none⟩)] W (Wd p g (D.fst2 (D.fst2 (0) (D.inn pp 0 3)) (D.inn s 0 1)) ⟨4, 0, u, 0, m, b, v, 0, t⟩ W)) := Lib.hid (fun W q1 q2 q3 => weigh_time p g (D.fst2 (D.fst2 (0) (D.inn pp 0 3)) (D.inn s 0 1)) a _ _ W q2 q3 ((rf_of (RBh.rd q2)).2.2.2.2.2.2.2.1) ⟨rfl⟩)
 have HW := Lib.hid hw
 have HP := Lib.hid hp
 have HE := Lib.hid he
 clear hw hp he n1 n2
 go_enter Tryz.func117, Tryz.ntmps117
 go_wp2_with fail
 have X00 := Blk.new w 233 (aS.v (actW hb))
 have B00 := below_alloc w (.cells (aS.v (actW hb)) 233)
 generalize w.alloc (.cells (aS.v (actW hb)) 233) = W0 at X00 B00 ⊢
 have x0 := (X00.c 0).trans (act_w0 hb)
 have X0 := Lib.hid (X00.drew)
 have B0 := Lib.hid (B00.trans ((below_dr W0).mono B00.size))
 clear X00 B00
 go_still_tail 5, (by kernel_rfl)
 change wpList _ _ _ _ _ (World.drew _)
 go_wp2_with (go_at_call 150; (with_reducible refine (C1.out _ (HW.out.on B0.out) (HP.out.on B0.out) (HE.out.on B0.out)).mono ?_); rintro en w1 ⟨rfl, e1, p1, k1⟩; have W1 := Lib.hid (Wg.only (HW.out.on B0.out) (HE.out.on B0.out) (HP.out.on B0.out) k1); have K1 := Lib.hid (Only.off B0.out k1); have X1 := Lib.hid (Blk.only X0.out k1 HN.out); have E1 := Lib.hid e1; have P1 := Lib.hid p1; clear e1 p1 k1; have x1 := (X1.out.c 0).trans (act_w0 hb))
 go_still_tail 5, (by kernel_rfl)
 change wpList _ _ _ _ _ (World.drew _)
 go_wp2_with (go_at_call 150; (with_reducible refine (C2.out _ (W1.out.on (below_dr _)) (P1.out.on (below_dr _)) (E1.out.on (below_dr _))).mono ?_); rintro en w2 ⟨rfl, e2, p2, k2⟩; have W2 := Lib.hid (Wg.only (W1.out.on (below_dr _)) (E1.out.on (below_dr _)) (P1.out.on (below_dr _)) k2); have K2 := Lib.hid (K1.out.trans (Only.off (below_dr _) k2) fun i h => .inl h); have X2 := Lib.hid (Blk.only (X1.out.on (below_dr _)) k2 HN.out); have E2 := Lib.hid e2; have P2 := Lib.hid p2; clear e2 p2 k2; have x2 := (X2.out.c 3).trans (act_w3 hb))
 go_still_tail 5, (by kernel_rfl)
 change wpList _ _ _ _ _ (World.drew _)
 go_wp2_with (go_at_call 153; (with_reducible refine (C3.out _ (W2.out.on (below_dr _)) (P2.out.on (below_dr _)) (E2.out.on (below_dr _))).mono ?_); rintro en w3 ⟨rfl, e3, p3, k3⟩; have W3 := Lib.hid (Wg.only (W2.out.on (below_dr _)) (E2.out.on (below_dr _)) (P2.out.on (below_dr _)) k3); have K3 := Lib.hid (K2.out.trans (Only.off (below_dr _) k3) fun i h => .inl h); have X3 := Lib.hid (Blk.only (X2.out.on (below_dr _)) k3 HN.out); have E3 := Lib.hid e3; have P3 := Lib.hid p3; clear e3 p3 k3)
 go_ret
 exact ⟨rfl, E3.out, P3.out, K3.out⟩
set_option maxHeartbeats 2000000 in
theorem each_w5 (p g h hb s u pp m v a : Nat) (b : Bool) (t : ByteArray) (w : World) (hv : v < 4294967296) (hw : Wg w h hb g) (hp : RBh w p ⟨5, s, u, pp, m, b, v, a, t⟩) (he : EB w g 0) :
  Calls Tryz.prog 117 #[.pointer (some ⟨p, 0, none⟩), .agg (aS.v (actW hb))] w (Ew p g true (D.fst2 (D.inn v 1 4294967295) (D.lng t)) ⟨5, s, u, pp, m, false, 0, a, ⟨#[]⟩⟩ w) := by
 have ck : w.cell? ⟨p, 0, none⟩ = some (.int .u8 5) := (rf_of hp.rd).1
 have lp : p < w.heap.size := Blk.lt hp
 have n1 : w.heap.size ≠ p := Nat.ne_of_gt (Blk.lt hp)
 have n2 : w.heap.size ≠ g := Nat.ne_of_gt (Blk.lt he)
 have HN : Hid (¬ Pg p g w.heap.size) := Lib.hid (by rintro (h | h); exact n1 h; exact n2 h)
 have C1 : Hid (∀ W, Wg W h hb g → RBh W p ⟨5, s, u, pp, m, b, v, a, t⟩ → EB W g (0) → Calls Tryz.prog 151 #[.pointer (some ⟨p, 5, none⟩)] W (Wd p g (0) ⟨5, s, u, pp, m, false, v, a, t⟩ W)) := Lib.hid (fun W q1 q2 q3 => weigh_gone p g (0) b _ _ W q2 q3 ((rf_of (RBh.rd q2)).2.2.2.2.2.1) ⟨rfl⟩)
 have C2 : Hid (∀ W, Wg W h hb g → RBh W p ⟨5, s, u, pp, m, false, v, a, t⟩ → EB W g (0) → Calls Tryz.prog 152 #[.pointer (some ⟨p, 6, none⟩), .pointer (some ⟨hb, 0, none⟩)] W (Wd p g (D.fst2 (0) (D.inn v 1 4294967295)) ⟨5, s, u, pp, m, false, 0, a, t⟩ W)) := Lib.hid (fun W q1 q2 q3 => weigh_rev p g h hb (0) v _ _ W hv q1 q2 q3 ((rf_of (RBh.rd q2)).2.2.2.2.2.2.1) ⟨rfl⟩)
 have C3 : Hid (∀ W, Wg W h hb g → RBh W p ⟨5, s, u, pp, m, false, 0, a, t⟩ → EB W g (D.fst2 (0) (D.inn v 1 4294967295)) → Calls Tryz.prog 154 #[.pointer (some ⟨p, 8, none⟩), .pointer (some ⟨hb, 0, none⟩)] W (Wd p g (D.fst2 (D.fst2 (0) (D.inn v 1 4294967295)) (D.lng t)) ⟨5, s, u, pp, m, false, 0, a, ⟨#[]⟩⟩ W)) := Lib.hid (fun W q1 q2 q3 => weigh_text p g h hb (D.fst2 (0) (D.inn v 1 4294967295)) t _ _ W q1 q2 q3 ((rf_of (RBh.rd q2)).2.2.2.2.2.2.2.2) ⟨rfl⟩)
 have HW := Lib.hid hw
 have HP := Lib.hid hp
 have HE := Lib.hid he
 clear hw hp he n1 n2
 go_enter Tryz.func117, Tryz.ntmps117
 go_wp2_with fail
 have X00 := Blk.new w 233 (aS.v (actW hb))
 have B00 := below_alloc w (.cells (aS.v (actW hb)) 233)
 generalize w.alloc (.cells (aS.v (actW hb)) 233) = W0 at X00 B00 ⊢
 have x0 := (X00.c 1).trans (act_w1 hb)
 have X0 := Lib.hid (X00.drew)
 have B0 := Lib.hid (B00.trans ((below_dr W0).mono B00.size))
 clear X00 B00
 go_still_tail 5, (by kernel_rfl)
 change wpList _ _ _ _ _ (World.drew _)
 go_wp2_with (go_at_call 151; (with_reducible refine (C1.out _ (HW.out.on B0.out) (HP.out.on B0.out) (HE.out.on B0.out)).mono ?_); rintro en w1 ⟨rfl, e1, p1, k1⟩; have W1 := Lib.hid (Wg.only (HW.out.on B0.out) (HE.out.on B0.out) (HP.out.on B0.out) k1); have K1 := Lib.hid (Only.off B0.out k1); have X1 := Lib.hid (Blk.only X0.out k1 HN.out); have E1 := Lib.hid e1; have P1 := Lib.hid p1; clear e1 p1 k1; have x1 := (X1.out.c 2).trans (act_w2 hb))
 go_still_tail 5, (by kernel_rfl)
 change wpList _ _ _ _ _ (World.drew _)
 go_wp2_with (go_at_call 152; (with_reducible refine (C2.out _ (W1.out.on (below_dr _)) (P1.out.on (below_dr _)) (E1.out.on (below_dr _))).mono ?_); rintro en w2 ⟨rfl, e2, p2, k2⟩; have W2 := Lib.hid (Wg.only (W1.out.on (below_dr _)) (E1.out.on (below_dr _)) (P1.out.on (below_dr _)) k2); have K2 := Lib.hid (K1.out.trans (Only.off (below_dr _) k2) fun i h => .inl h); have X2 := Lib.hid (Blk.only (X1.out.on (below_dr _)) k2 HN.out); have E2 := Lib.hid e2; have P2 := Lib.hid p2; clear e2 p2 k2; have x2 := (X2.out.c 4).trans (act_w4 hb))
 go_still_tail 5, (by kernel_rfl)
 change wpList _ _ _ _ _ (World.drew _)
 go_wp2_with (go_at_call 154; (with_reducible refine (C3.out _ (W2.out.on (below_dr _)) (P2.out.on (below_dr _)) (E2.out.on (below_dr _))).mono ?_); rintro en w3 ⟨rfl, e3, p3, k3⟩; have W3 := Lib.hid (Wg.only (W2.out.on (below_dr _)) (E2.out.on (below_dr _)) (P2.out.on (below_dr _)) k3); have K3 := Lib.hid (K2.out.trans (Only.off (below_dr _) k3) fun i h => .inl h); have X3 := Lib.hid (Blk.only (X2.out.on (below_dr _)) k3 HN.out); have E3 := Lib.hid e3; have P3 := Lib.hid p3; clear e3 p3 k3)
 go_ret
 exact ⟨rfl, E3.out, P3.out, K3.out⟩
set_option maxHeartbeats 2000000 in
theorem each_w6 (p g h hb s u pp m v a : Nat) (b : Bool) (t : ByteArray) (w : World) (hv : v < 4294967296) (hw : Wg w h hb g) (hp : RBh w p ⟨6, s, u, pp, m, b, v, a, t⟩) (he : EB w g 0) :
  Calls Tryz.prog 117 #[.pointer (some ⟨p, 0, none⟩), .agg (aS.v (actW hb))] w (Ew p g true (D.fst2 (D.fst2 (D.fst2 (D.inn s 1 5) (D.inn u 0 15)) (D.inn v 1 4294967295)) (D.lng t)) ⟨6, 0, 0, pp, m, b, 0, a, ⟨#[]⟩⟩ w) := by
 have ck : w.cell? ⟨p, 0, none⟩ = some (.int .u8 6) := (rf_of hp.rd).1
 have lp : p < w.heap.size := Blk.lt hp
 have n1 : w.heap.size ≠ p := Nat.ne_of_gt (Blk.lt hp)
 have n2 : w.heap.size ≠ g := Nat.ne_of_gt (Blk.lt he)
 have HN : Hid (¬ Pg p g w.heap.size) := Lib.hid (by rintro (h | h); exact n1 h; exact n2 h)
 have C1 : Hid (∀ W, Wg W h hb g → RBh W p ⟨6, s, u, pp, m, b, v, a, t⟩ → EB W g (0) → Calls Tryz.prog 150 #[.pointer (some ⟨p, 1, none⟩), .int .u8 1, .int .u8 5, .pointer (some ⟨hb, 0, none⟩)] W (Wd p g (D.fst2 (0) (D.inn s 1 5)) ⟨6, 0, u, pp, m, b, v, a, t⟩ W)) := Lib.hid (fun W q1 q2 q3 => weigh_small p g h hb (0) 1 s 1 5 _ _ W q1 q2 q3 ((rf_of (RBh.rd q2)).2.1) ⟨rfl⟩)
 have C2 : Hid (∀ W, Wg W h hb g → RBh W p ⟨6, 0, u, pp, m, b, v, a, t⟩ → EB W g (D.fst2 (0) (D.inn s 1 5)) → Calls Tryz.prog 150 #[.pointer (some ⟨p, 2, none⟩), .int .u8 0, .int .u8 15, .pointer (some ⟨hb, 0, none⟩)] W (Wd p g (D.fst2 (D.fst2 (0) (D.inn s 1 5)) (D.inn u 0 15)) ⟨6, 0, 0, pp, m, b, v, a, t⟩ W)) := Lib.hid (fun W q1 q2 q3 => weigh_small p g h hb (D.fst2 (0) (D.inn s 1 5)) 2 u 0 15 _ _ W q1 q2 q3 ((rf_of (RBh.rd q2)).2.2.1) ⟨rfl⟩)
 have C3 : Hid (∀ W, Wg W h hb g → RBh W p ⟨6, 0, 0, pp, m, b, v, a, t⟩ → EB W g (D.fst2 (D.fst2 (0) (D.inn s 1 5)) (D.inn u 0 15)) → Calls Tryz.prog 152 #[.pointer (some ⟨p, 6, none⟩), .pointer (some ⟨hb, 0, none⟩)] W (Wd p g (D.fst2 (D.fst2 (D.fst2 (0) (D.inn s 1 5)) (D.inn u 0 15)) (D.inn v 1 4294967295)) ⟨6, 0, 0, pp, m, b, 0, a, t⟩ W)) := Lib.hid (fun W q1 q2 q3 => weigh_rev p g h hb (D.fst2 (D.fst2 (0) (D.inn s 1 5)) (D.inn u 0 15)) v _ _ W hv q1 q2 q3 ((rf_of (RBh.rd q2)).2.2.2.2.2.2.1) ⟨rfl⟩)
 have C4 : Hid (∀ W, Wg W h hb g → RBh W p ⟨6, 0, 0, pp, m, b, 0, a, t⟩ → EB W g (D.fst2 (D.fst2 (D.fst2 (0) (D.inn s 1 5)) (D.inn u 0 15)) (D.inn v 1 4294967295)) → Calls Tryz.prog 154 #[.pointer (some ⟨p, 8, none⟩), .pointer (some ⟨hb, 0, none⟩)] W (Wd p g (D.fst2 (D.fst2 (D.fst2 (D.fst2 (0) (D.inn s 1 5)) (D.inn u 0 15)) (D.inn v 1 4294967295)) (D.lng t)) ⟨6, 0, 0, pp, m, b, 0, a, ⟨#[]⟩⟩ W)) := Lib.hid (fun W q1 q2 q3 => weigh_text p g h hb (D.fst2 (D.fst2 (D.fst2 (0) (D.inn s 1 5)) (D.inn u 0 15)) (D.inn v 1 4294967295)) t _ _ W q1 q2 q3 ((rf_of (RBh.rd q2)).2.2.2.2.2.2.2.2) ⟨rfl⟩)
 have HW := Lib.hid hw
 have HP := Lib.hid hp
 have HE := Lib.hid he
 clear hw hp he n1 n2
 go_enter Tryz.func117, Tryz.ntmps117
 go_wp2_with fail
 have X00 := Blk.new w 233 (aS.v (actW hb))
 have B00 := below_alloc w (.cells (aS.v (actW hb)) 233)
 generalize w.alloc (.cells (aS.v (actW hb)) 233) = W0 at X00 B00 ⊢
 have x0 := (X00.c 0).trans (act_w0 hb)
 have X0 := Lib.hid (X00.drew)
 have B0 := Lib.hid (B00.trans ((below_dr W0).mono B00.size))
 clear X00 B00
 go_still_tail 5, (by kernel_rfl)
 change wpList _ _ _ _ _ (World.drew _)
 go_wp2_with (go_at_call 150; (with_reducible refine (C1.out _ (HW.out.on B0.out) (HP.out.on B0.out) (HE.out.on B0.out)).mono ?_); rintro en w1 ⟨rfl, e1, p1, k1⟩; have W1 := Lib.hid (Wg.only (HW.out.on B0.out) (HE.out.on B0.out) (HP.out.on B0.out) k1); have K1 := Lib.hid (Only.off B0.out k1); have X1 := Lib.hid (Blk.only X0.out k1 HN.out); have E1 := Lib.hid e1; have P1 := Lib.hid p1; clear e1 p1 k1; have x1 := (X1.out.c 0).trans (act_w0 hb))
 go_still_tail 5, (by kernel_rfl)
 change wpList _ _ _ _ _ (World.drew _)
 go_wp2_with (go_at_call 150; (with_reducible refine (C2.out _ (W1.out.on (below_dr _)) (P1.out.on (below_dr _)) (E1.out.on (below_dr _))).mono ?_); rintro en w2 ⟨rfl, e2, p2, k2⟩; have W2 := Lib.hid (Wg.only (W1.out.on (below_dr _)) (E1.out.on (below_dr _)) (P1.out.on (below_dr _)) k2); have K2 := Lib.hid (K1.out.trans (Only.off (below_dr _) k2) fun i h => .inl h); have X2 := Lib.hid (Blk.only (X1.out.on (below_dr _)) k2 HN.out); have E2 := Lib.hid e2; have P2 := Lib.hid p2; clear e2 p2 k2; have x2 := (X2.out.c 2).trans (act_w2 hb))
 go_still_tail 5, (by kernel_rfl)
 change wpList _ _ _ _ _ (World.drew _)
 go_wp2_with (go_at_call 152; (with_reducible refine (C3.out _ (W2.out.on (below_dr _)) (P2.out.on (below_dr _)) (E2.out.on (below_dr _))).mono ?_); rintro en w3 ⟨rfl, e3, p3, k3⟩; have W3 := Lib.hid (Wg.only (W2.out.on (below_dr _)) (E2.out.on (below_dr _)) (P2.out.on (below_dr _)) k3); have K3 := Lib.hid (K2.out.trans (Only.off (below_dr _) k3) fun i h => .inl h); have X3 := Lib.hid (Blk.only (X2.out.on (below_dr _)) k3 HN.out); have E3 := Lib.hid e3; have P3 := Lib.hid p3; clear e3 p3 k3; have x3 := (X3.out.c 4).trans (act_w4 hb))
 go_still_tail 5, (by kernel_rfl)
 change wpList _ _ _ _ _ (World.drew _)
 go_wp2_with (go_at_call 154; (with_reducible refine (C4.out _ (W3.out.on (below_dr _)) (P3.out.on (below_dr _)) (E3.out.on (below_dr _))).mono ?_); rintro en w4 ⟨rfl, e4, p4, k4⟩; have W4 := Lib.hid (Wg.only (W3.out.on (below_dr _)) (E3.out.on (below_dr _)) (P3.out.on (below_dr _)) k4); have K4 := Lib.hid (K3.out.trans (Only.off (below_dr _) k4) fun i h => .inl h); have X4 := Lib.hid (Blk.only (X3.out.on (below_dr _)) k4 HN.out); have E4 := Lib.hid e4; have P4 := Lib.hid p4; clear e4 p4 k4)
 go_ret
 exact ⟨rfl, E4.out, P4.out, K4.out⟩
theorem each_w3 (p g h hb s u pp m v a : Nat) (b : Bool) (t : ByteArray) (w : World) (hw : Wg w h hb g) (hp : RBh w p ⟨3, s, u, pp, m, b, v, a, t⟩) (he : EB w g 0) :
  Calls Tryz.prog 117 #[.pointer (some ⟨p, 0, none⟩), .agg (aS.v (actW hb))] w (Ew p g true 0 ⟨3, s, u, pp, m, b, v, a, t⟩ w) := by
 have ck : w.cell? ⟨p, 0, none⟩ = some (.int .u8 3) := (rf_of hp.rd).1
 have lp : p < w.heap.size := Blk.lt hp
 have HP := Lib.hid hp
 have HE := Lib.hid he
 go_enter Tryz.func117, Tryz.ntmps117
 go_wp2
 go_ret
 exact ⟨rfl, HE.out.on (below_alloc _ _), HP.out.on (below_alloc _ _), only_below (below_alloc _ _)⟩
theorem each_none (x : AcT) (p k : Nat) (w : World) (ck : w.cell? ⟨p, 0, none⟩ = some (.int .u8 (k : Nat))) (hk : k = 0 ∨ 6 < k) :
  Calls Tryz.prog 117 #[.pointer (some ⟨p, 0, none⟩), .agg (aS.v x)] w fun en w' => en = .returned (.bool false) ∧ Below w.heap.size w w' := by
 have lp : p < w.heap.size := World.block_lt_of_cell? w _ ck
 have e1 : ((k : Int) == 1) = false := by simp; omega
 have e2 : ((k : Int) == 2) = false := by simp; omega
 have e3 : ((k : Int) == 3) = false := by simp; omega
 have e4 : ((k : Int) == 4) = false := by simp; omega
 have e5 : ((k : Int) == 5) = false := by simp; omega
 have e6 : ((k : Int) == 6) = false := by simp; omega
 go_enter Tryz.func117, Tryz.ntmps117
 go_wp2
 go_ret
 exact ⟨rfl, below_alloc _ _⟩
theorem each_weigh (p g h hb : Nat) (r : D.Rc) (w : World) (hr : r.wf) (hw : Wg w h hb g) (hp : RBh w p r) (he : EB w g 0) (hk : ¬ (r.k = 0 ∨ 6 < r.k)) :
  Calls Tryz.prog 117 #[.pointer (some ⟨p, 0, none⟩), .agg (aS.v (actW hb))] w (Ew p g true (D.amiss r) (D.rinse r) w) := by
 have hv := hr.v
 obtain ⟨k, s, u, pp, m, b, v, a, t⟩ := r
 simp only at hk hv
 have hk : k = 1 ∨ k = 2 ∨ k = 3 ∨ k = 4 ∨ k = 5 ∨ k = 6 := by omega
 rcases hk with rfl | rfl | rfl | rfl | rfl | rfl
 ·exact each_w1 p g h hb s u pp m v a b t w hw hp he
 ·exact each_w2 p g h hb s u pp m v a b t w hw hp he
 ·exact each_w3 p g h hb s u pp m v a b t w hw hp he
 ·exact each_w4 p g h hb s u pp m v a b t w hw hp he
 ·exact each_w5 p g h hb s u pp m v a b t w hv hw hp he
 ·exact each_w6 p g h hb s u pp m v a b t w hv hw hp he
end Go.Proofs.YtjlaffgbmcpldaaGreatDoor
namespace Go.Proofs.YtjlaffgbmcpldaaGreatDoor
open Go.RowKit
attribute [local go_sem ↓] Go.wp_at_zero Go.wp_at_succ

theorem setRow_alloc2 (w : World) (n : Nat) (cs cs' : Array Value) (t : TypeId) (o : Obj) (h : n = w.heap.size) : ((w.alloc (.cells cs t)).alloc o).setRow n cs' = (w.alloc (.cells cs' t)).alloc o := by
 subst h
 simp only [World.setRow, World.alloc]
 congr 1
 apply Array.ext_getElem?
 intro k
 rw [Array.getElem?_modify]
 by_cases e : w.heap.size = k
 ·subst e; simp [Array.getElem?_push]
 ·rw [if_neg e]
  simp only [Array.getElem?_push, Array.size_push]
  by_cases h1 : k = w.heap.size + 1
  ·simp [h1]
  ·have h2 : k ≠ w.heap.size := fun h => e h.symm
   simp [h1, h2]
attribute [local go_sem ↓] ld_rh st_r bd_rh ne_rh
attribute [local go_sem] run_ldrh run_str run_bdr1 run_nerh Shp.rd_new Shp.rd_old Shp.tn_new Shp.tn_old setRow_alloc setRow_alloc2
theorem rb_two (w : World) (r : D.Rc) (n : Nat) (T : TypeId) (cs : Array Value) (h : n = w.heap.size + 1) : RBh (((w.alloc (.cells (rSh.v r) 75)).alloc (.cells (rSh.v r) 75)).alloc (.cells cs T)) n r := by
 subst h
 have := RBh.new (w.alloc (.cells (rSh.v r) 75)) (w.heap.size + 1) r (by simp)
 exact this.on (below_alloc _ _)
theorem eb_three (w : World) (r : D.Rc) (n : Nat) (h : n = w.heap.size + 2) : EB (((w.alloc (.cells (rSh.v r) 75)).alloc (.cells (rSh.v r) 75)).alloc (.cells #[.int .i64 0] 25)) n 0 := by
 subst h
 have := Blk.new ((w.alloc (.cells (rSh.v r) 75)).alloc (.cells (rSh.v r) 75)) 25 #[.int .i64 0]
 simpa [EB] using this
set_option maxHeartbeats 2000000 in
theorem check_kind (r : D.Rc) (w : World) (hk : r.k = 0 ∨ 6 < r.k) :
  Calls Tryz.prog 83 #[.agg (rSh.v r)] w fun en w' => en = .returned (.int .i64 16) ∧ Below w.heap.size w w' := by
 have HK := Lib.hid hk
 clear hk
 go_enter Tryz.func83, Tryz.ntmps83
 go_wp2_with fail
 have R0 := ((RBh.new w w.heap.size r rfl).on (below_alloc _ (.cells (rSh.v r) 75))).on (below_alloc _ (.cells #[.int .i64 0] 25))
 have R1 := rb_two w r (w.heap.size + 1) 25 #[.int .i64 0] rfl
 have E0 := eb_three w r (w.heap.size + 1 + 1) rfl
 have B0 : Below w.heap.size w (((w.alloc (.cells (rSh.v r) 75)).alloc (.cells (rSh.v r) 75)).alloc (.cells #[.int .i64 0] 25)) := (((Below.refl _ _).alloc (Nat.le_refl _) _).alloc (by simp) _).alloc (by simp; omega) _
 have CW := Lib.hid (weighing_any (w.heap.size + 1 + 1) (((w.alloc (.cells (rSh.v r) 75)).alloc (.cells (rSh.v r) 75)).alloc (.cells #[.int .i64 0] 25)))
 generalize ((w.alloc (.cells (rSh.v r) 75)).alloc (.cells (rSh.v r) 75)).alloc (.cells #[.int .i64 0] 25) = W at R0 R1 E0 B0 CW ⊢
 have HR := Lib.hid R1
 have HB := Lib.hid B0
 clear R0 R1 E0 B0
 go_wp2_with (first
  | (go_at_call 118; (with_reducible refine CW.out.mono ?_); rintro en w1 ⟨rfl, g1, b1⟩; have B1 := Lib.hid b1; have CE := Lib.hid (each_none (actW (W.heap.size + 2)) (w.heap.size + 1) r.k w1 (rf_of (HR.out.on b1).rd).1 HK.out); clear g1 b1)
  | (go_at_call 117; (with_reducible refine CE.out.mono ?_); rintro en w2 ⟨rfl, b2⟩; have B2 := Lib.hid b2; clear b2))
 go_ret
 exact ⟨rfl, (HB.out.trans (B1.out.mono HB.out.size)).trans (B2.out.mono (Nat.le_trans HB.out.size B1.out.size))⟩
theorem D.chk_bad {r : D.Rc} (hk : ¬ (r.k = 0 ∨ 6 < r.k)) (h : D.rinse r ≠ D.bare r.k) : D.chk r = 3 := by
 unfold D.chk
 rw [if_neg hk, if_pos h]
theorem D.chk_err {r : D.Rc} (hk : ¬ (r.k = 0 ∨ 6 < r.k)) (h : D.rinse r = D.bare r.k) (h2 : D.amiss r ≠ 0) : D.chk r = D.amiss r := by
 unfold D.chk
 rw [if_neg hk, if_neg (fun k => k h), if_pos h2]
theorem D.chk_gone {r : D.Rc} (hk : ¬ (r.k = 0 ∨ 6 < r.k)) (h : D.rinse r = D.bare r.k) (h2 : D.amiss r = 0) : D.chk r = if r.g = true ∧ r.t.size ≠ 0 then 3 else 0 := by
 unfold D.chk
 rw [if_neg hk, if_neg (fun k => k h), if_neg (fun k => k h2)]
structure Ck (w w2 : World) (r y : D.Rc) (e : Nat) : Prop where
 b : Below w.heap.size w w2
 r0 : RBh w2 w.heap.size r
 r1 : RBh w2 (w.heap.size + 1) y
 e0 : EB w2 (w.heap.size + 1 + 1) e
theorem ck_of {w W w1 w2 : World} {r y : D.Rc} {e : Nat} (B0 : Below w.heap.size w W) (R0 : RBh W w.heap.size r) (R1 : RBh W (w.heap.size + 1) r) (E0 : EB W (w.heap.size + 1 + 1) 0) (b1 : Below W.heap.size W w1)
  (k : Only (Pg (w.heap.size + 1) (w.heap.size + 1 + 1)) w1 w2) (r1 : RBh w2 (w.heap.size + 1) y) (e0 : EB w2 (w.heap.size + 1 + 1) e) : Ck w w2 r y e := by
 refine ⟨?_, (R0.on b1).only k ?_, r1, e0⟩
 ·exact (B0.trans (b1.mono B0.size)).trans (k.below (Nat.le_trans B0.size b1.size) fun i hi => by rcases hi with hi | hi <;> omega)
 ·rintro (h | h) <;> omega
set_option maxHeartbeats 4000000 in
theorem check_bad (r : D.Rc) (w : World) (hr : r.wf) (hk : ¬ (r.k = 0 ∨ 6 < r.k)) (h : D.rinse r ≠ D.bare r.k) :
  Calls Tryz.prog 83 #[.agg (rSh.v r)] w fun en w' => en = .returned (.int .i64 3) ∧ Below w.heap.size w w' := by
 have HK := Lib.hid hk
 have HR := Lib.hid hr
 obtain ⟨y, hy⟩ : ∃ y, D.rinse r = y := ⟨_, rfl⟩
 have HY := Kept.mk hy
 rw [hy] at h
 have hd : decide (y = D.bare r.k) = false := by simpa using h
 clear hk hr hy h
 go_enter Tryz.func83, Tryz.ntmps83
 go_wp2_with fail
 have R0 := ((RBh.new w w.heap.size r rfl).on (below_alloc _ (.cells (rSh.v r) 75))).on (below_alloc _ (.cells #[.int .i64 0] 25))
 have R1 := rb_two w r (w.heap.size + 1) 25 #[.int .i64 0] rfl
 have E0 := eb_three w r (w.heap.size + 1 + 1) rfl
 have B0 : Below w.heap.size w (((w.alloc (.cells (rSh.v r) 75)).alloc (.cells (rSh.v r) 75)).alloc (.cells #[.int .i64 0] 25)) := (((Below.refl _ _).alloc (Nat.le_refl _) _).alloc (by simp) _).alloc (by simp; omega) _
 have CW := Lib.hid (weighing_any (w.heap.size + 1 + 1) (((w.alloc (.cells (rSh.v r) 75)).alloc (.cells (rSh.v r) 75)).alloc (.cells #[.int .i64 0] 25)))
 generalize ((w.alloc (.cells (rSh.v r) 75)).alloc (.cells (rSh.v r) 75)).alloc (.cells #[.int .i64 0] 25) = W at R0 R1 E0 B0 CW ⊢
 have XR0 := Lib.hid R0
 have XR1 := Lib.hid R1
 have XE0 := Lib.hid E0
 have HB := Lib.hid B0
 clear R0 R1 E0 B0
 go_wp2_with (first
  | (go_at_call 118; (with_reducible refine CW.out.mono ?_); rintro en w1 ⟨rfl, g1, b1⟩; have B1 := Lib.hid b1; have CE := Lib.hid (each_weigh (w.heap.size + 1) (w.heap.size + 1 + 1) W.heap.size (W.heap.size + 2) r w1 HR.out g1 (XR1.out.on b1) (XE0.out.on b1) HK.out); clear g1 b1)
  | (go_at_call 117; (with_reducible refine CE.out.mono ?_); rintro en w2 ⟨rfl, e2, r2, k2⟩; have K := Lib.hid (ck_of HB.out XR0.out XR1.out XE0.out B1.out k2 r2 e2); rw [HY.out] at K; clear e2 r2 k2; have f1 := K.out.r1.rd; have f0 := (rf_of K.out.r0.rd).1))
 go_ret
 exact ⟨rfl, K.out.b⟩
set_option maxHeartbeats 4000000 in
theorem check_err (r : D.Rc) (w : World) (hr : r.wf) (hk : ¬ (r.k = 0 ∨ 6 < r.k)) (h : D.rinse r = D.bare r.k) (h2 : D.amiss r ≠ 0) :
  Calls Tryz.prog 83 #[.agg (rSh.v r)] w fun en w' => en = .returned (.int .i64 (D.amiss r : Nat)) ∧ Below w.heap.size w w' := by
 have HK := Lib.hid hk
 have HR := Lib.hid hr
 obtain ⟨y, hy⟩ : ∃ y, D.rinse r = y := ⟨_, rfl⟩
 have HY := Kept.mk hy
 rw [hy] at h
 have hd : decide (y = D.bare r.k) = true := by simpa using h
 obtain ⟨e, he⟩ : ∃ e, D.amiss r = e := ⟨_, rfl⟩
 have HE := Kept.mk he
 rw [he] at h2 ⊢
 have hb : ((e : Int) != 0) = true := by simp; exact h2
 clear hk hr hy h he h2
 go_enter Tryz.func83, Tryz.ntmps83
 go_wp2_with fail
 have R0 := ((RBh.new w w.heap.size r rfl).on (below_alloc _ (.cells (rSh.v r) 75))).on (below_alloc _ (.cells #[.int .i64 0] 25))
 have R1 := rb_two w r (w.heap.size + 1) 25 #[.int .i64 0] rfl
 have E0 := eb_three w r (w.heap.size + 1 + 1) rfl
 have B0 : Below w.heap.size w (((w.alloc (.cells (rSh.v r) 75)).alloc (.cells (rSh.v r) 75)).alloc (.cells #[.int .i64 0] 25)) := (((Below.refl _ _).alloc (Nat.le_refl _) _).alloc (by simp) _).alloc (by simp; omega) _
 have CW := Lib.hid (weighing_any (w.heap.size + 1 + 1) (((w.alloc (.cells (rSh.v r) 75)).alloc (.cells (rSh.v r) 75)).alloc (.cells #[.int .i64 0] 25)))
 generalize ((w.alloc (.cells (rSh.v r) 75)).alloc (.cells (rSh.v r) 75)).alloc (.cells #[.int .i64 0] 25) = W at R0 R1 E0 B0 CW ⊢
 have XR0 := Lib.hid R0
 have XR1 := Lib.hid R1
 have XE0 := Lib.hid E0
 have HB := Lib.hid B0
 clear R0 R1 E0 B0
 go_wp2_with (first
  | (go_at_call 118; (with_reducible refine CW.out.mono ?_); rintro en w1 ⟨rfl, g1, b1⟩; have B1 := Lib.hid b1; have CE := Lib.hid (each_weigh (w.heap.size + 1) (w.heap.size + 1 + 1) W.heap.size (W.heap.size + 2) r w1 HR.out g1 (XR1.out.on b1) (XE0.out.on b1) HK.out); clear g1 b1)
  | (go_at_call 117; (with_reducible refine CE.out.mono ?_); rintro en w2 ⟨rfl, e2, r2, k2⟩; have K := Lib.hid (ck_of HB.out XR0.out XR1.out XE0.out B1.out k2 r2 e2); rw [HY.out, HE.out] at K; clear e2 r2 k2; have f1 := K.out.r1.rd; have f0 := (rf_of K.out.r0.rd).1; have f2 := K.out.e0.cell))
 go_ret
 exact ⟨rfl, K.out.b⟩
set_option maxHeartbeats 4000000 in
theorem check_last (k s u p m v a : Nat) (g : Bool) (t : ByteArray) (w : World) (hr : (D.Rc.mk k s u p m g v a t).wf) (hk : ¬ (k = 0 ∨ 6 < k)) (h : D.rinse ⟨k, s, u, p, m, g, v, a, t⟩ = D.bare k) (h2 : D.amiss ⟨k, s, u, p, m, g, v, a, t⟩ = 0) :
  Calls Tryz.prog 83 #[.agg (rSh.v ⟨k, s, u, p, m, g, v, a, t⟩)] w fun en w' => en = .returned (.int .i64 ((if g = true ∧ t.size ≠ 0 then 3 else 0 : Nat) : Int)) ∧ Below w.heap.size w w' := by
 have HK := Lib.hid hk
 have HR := Lib.hid hr
 obtain ⟨y, hy⟩ : ∃ y, D.rinse ⟨k, s, u, p, m, g, v, a, t⟩ = y := ⟨_, rfl⟩
 have HY := Kept.mk hy
 rw [hy] at h
 have hd : decide (y = D.bare k) = true := by simpa using h
 have HE := Kept.mk h2
 obtain ⟨r, hrr⟩ : ∃ r, D.Rc.mk k s u p m g v a t = r := ⟨_, rfl⟩
 obtain ⟨q, hq⟩ : ∃ q : Nat, (if g = true ∧ t.size ≠ 0 then 3 else 0) = q := ⟨_, rfl⟩
 rw [hq]
 have hkr : r.k = k := by rw [← hrr]
 have hfr : ∀ W n, RBh W n r → W.cell? ⟨n, 0, none⟩ = some (.int .u8 (k : Nat)) ∧ W.cell? ⟨n, 5, none⟩ = some (.bool g) ∧ W.cell? ⟨n, 8, none⟩ = some (.string t) := fun W n hb => by
  have := rf_of hb.rd
  rw [← hrr] at this
  exact ⟨this.1, this.2.2.2.2.2.1, this.2.2.2.2.2.2.2.2⟩
 rw [hrr] at HR HY HE ⊢
 have HF := Lib.hid hfr
 have HQ := Lib.hid hq
 have HKR := Lib.hid hkr
 clear hk hr hy h h2 hrr hfr hq hkr
 go_enter Tryz.func83, Tryz.ntmps83
 go_wp2_with fail
 have R0 := ((RBh.new w w.heap.size r rfl).on (below_alloc _ (.cells (rSh.v r) 75))).on (below_alloc _ (.cells #[.int .i64 0] 25))
 have R1 := rb_two w r (w.heap.size + 1) 25 #[.int .i64 0] rfl
 have E0 := eb_three w r (w.heap.size + 1 + 1) rfl
 have B0 : Below w.heap.size w (((w.alloc (.cells (rSh.v r) 75)).alloc (.cells (rSh.v r) 75)).alloc (.cells #[.int .i64 0] 25)) := (((Below.refl _ _).alloc (Nat.le_refl _) _).alloc (by simp) _).alloc (by simp; omega) _
 have CW := Lib.hid (weighing_any (w.heap.size + 1 + 1) (((w.alloc (.cells (rSh.v r) 75)).alloc (.cells (rSh.v r) 75)).alloc (.cells #[.int .i64 0] 25)))
 generalize ((w.alloc (.cells (rSh.v r) 75)).alloc (.cells (rSh.v r) 75)).alloc (.cells #[.int .i64 0] 25) = W at R0 R1 E0 B0 CW ⊢
 have XR0 := Lib.hid R0
 have XR1 := Lib.hid R1
 have XE0 := Lib.hid E0
 have HB := Lib.hid B0
 clear R0 R1 E0 B0
 have hgt : (g = false ∧ q = 0) ∨ (g = true ∧ t = ⟨#[]⟩ ∧ q = 0) ∨ (g = true ∧ (t.toList == []) = false ∧ (t.toList != []) = true ∧ q = 3) := by
  have hq := HQ.out
  cases g
  ·left; simpa using hq.symm
  ·right
   by_cases h0 : t.size = 0
   ·left
    simp [h0] at hq
    exact ⟨rfl, D.size0 h0, hq.symm⟩
   ·right
    simp [h0] at hq
    have ht : t.toList ≠ [] := by
     rw [ByteArray.toList_eq]
     intro e
     exact h0 (by have := congrArg List.length e; simpa using this)
    refine ⟨rfl, by simpa using ht, by simpa using ht, hq.symm⟩
 have CT : Hid (∀ W n, RBh W n r → W.cell? ⟨n, 0, none⟩ = some (.int .u8 (k : Nat)) ∧ W.cell? ⟨n, 5, none⟩ = some (.bool g) ∧ W.cell? ⟨n, 8, none⟩ = some (.string t)) := HF
 rcases hgt with ⟨rfl, rfl⟩ | ⟨rfl, rfl, rfl⟩ | ⟨rfl, ht, ht2, rfl⟩
 all_goals
  go_wp2_with (first
   | (go_at_call 118; (with_reducible refine CW.out.mono ?_); rintro en w1 ⟨rfl, g1, b1⟩; have B1 := Lib.hid b1; have CE := Lib.hid (each_weigh (w.heap.size + 1) (w.heap.size + 1 + 1) W.heap.size (W.heap.size + 2) r w1 HR.out g1 (XR1.out.on b1) (XE0.out.on b1) (by rw [HKR.out]; exact HK.out)); clear g1 b1)
   | (go_at_call 117; (with_reducible refine CE.out.mono ?_); rintro en w2 ⟨rfl, e2, r2, k2⟩; have K := Lib.hid (ck_of HB.out XR0.out XR1.out XE0.out B1.out k2 r2 e2); rw [HY.out, HE.out] at K; clear e2 r2 k2; have f1 := K.out.r1.rd; obtain ⟨f0, f5, f8⟩ := CT.out _ _ K.out.r0; have f2 : w2.cell? ⟨w.heap.size + 1 + 1, 0, none⟩ = some (.int .i64 0) := K.out.e0.cell))
  go_ret
  exact ⟨rfl, K.out.b⟩
theorem check_any (r : D.Rc) (w : World) (hr : r.wf) :
  Calls Tryz.prog 83 #[.agg (rSh.v r)] w fun en w' => en = .returned (.int .i64 (D.chk r : Nat)) ∧ Below w.heap.size w w' := by
 by_cases hk : r.k = 0 ∨ 6 < r.k
 ·have e : D.chk r = 16 := by unfold D.chk; rw [if_pos hk]
  rw [e]
  exact check_kind r w hk
 ·by_cases h : D.rinse r = D.bare r.k
  ·by_cases h2 : D.amiss r = 0
   ·rw [D.chk_gone hk h h2]
    obtain ⟨k, s, u, p, m, g, v, a, t⟩ := r
    exact check_last k s u p m v a g t w hr hk h h2
   ·rw [D.chk_err hk h h2]
    exact check_err r w hr hk h h2
  ·rw [D.chk_bad hk h]
   exact check_bad r w hr hk h
end Go.Proofs.YtjlaffgbmcpldaaGreatDoor
namespace Go.Proofs.YtjlaffgbmcpldaaGreatDoor
open Go.RowKit

def ev (a : Act) (j : Nat) : Value := a.tmps.getD j undef
structure Is (a : Act) (d : Nat) (c : Bool) (v : Value) : Prop where
 out : ev a d = bif c then v else undef
theorem Is.get {a : Act} {d : Nat} {c : Bool} {v : Value} (h : Is a d c v) (hc : c = true) : a.eval (.tmp d) = v := by
 have := h.out
 rw [hc] at this
 exact this
theorem Is.as {a : Act} {d : Nat} {c : Bool} {v u : Value} (h : Is a d c v) (e : v = u) : Is a d c u := e ▸ h
section
variable {P : Program} {ops : Array Oper} {Q : Exit → Act → World → Prop} {a : Act} {w : World} {rest : List Oper} {o : Oper}
end
section
variable {P : Program} {F : Operand → Value} {w : World} {o : Oper}
end
section
variable {F : Operand → Value} {w : World} {o : Oper}
end
end Go.Proofs.YtjlaffgbmcpldaaGreatDoor
namespace Go.Proofs.YtjlaffgbmcpldaaGreatDoor
open Go.RowKit
attribute [local go_sem ↓] Go.wp_at_zero Go.wp_at_succ ld_v lv_v st_v ne_v bd_v bs_v ld_w lv_w st_w ne_w bd_w bs_w ld_rh ld_d lv_rh lv_d st_r st_d ne_rh eq_rh ne_d bd_rh bd_d
attribute [local go_sem] run_ldv run_lvv run_stv run_nev run_bdv_z run_bdv_d run_bdv_r run_bsv1 run_bsv0 run_ldw run_lvw run_stw run_new run_bdw_3 run_bsw1 run_bsw0 run_ldrh run_ldd run_lvrh run_lvd run_str run_std run_nerh run_eqrh run_ned run_bdr0 run_bdd0 run_bdr1 run_bdd1 run_bdd9 Shp.rd_new Shp.rd_old Shp.rd_drew Shp.rd_drewN Shp.rd_set Shp.tn_new Shp.tn_old Shp.tn_drew Shp.tn_drewN setRow_alloc
theorem all_any (g n c : Nat) (A : Option Addr) (w : World) (h : w.cell? ⟨g, 0, none⟩ = some (.slice A n c)) : Calls Tryz.prog 110 #[.pointer (some ⟨g, 0, none⟩)] w fun e w' => e = .returned (.slice A n c) ∧ w' = w := by
 go_enter Tryz.func110, Tryz.ntmps110
 go_wp2
 go_ret
 exact ⟨rfl, rfl⟩
theorem all_nil (w : World) : Calls Tryz.prog 110 #[.pointer none] w fun e w' => e = .returned (.slice none 0 0) ∧ w' = w := by
 go_enter Tryz.func110, Tryz.ntmps110
 go_wp2
 go_ret
 exact ⟨rfl, rfl⟩
set_option maxHeartbeats 1000000 in
theorem seen1_any (b1 b2 n c t i : Nat) (A : Option Addr) (l : List D.Vn) (v : D.Vn) (w : World) (h1 : w.cell? ⟨b1, 0, none⟩ = some (.slice A n c)) (h2 : w.cell? ⟨b2, 0, none⟩ = some (.int .u64 (t : Nat))) (hr : Shp.Row vS w A n l) (hv : l[i]? = some v) :
  Calls Tryz.prog 144 #[.int .i64 (i : Nat), .pointer (some ⟨b1, 0, none⟩), .pointer (some ⟨b2, 0, none⟩)] w fun e w' => e = .returned (.bool (decide (t < v.a))) ∧ Below w.heap.size w w' := by
 have hi : (i : Int) < (n : Int) := by have := (List.getElem?_eq_some_iff.1 hv).1; have := hr.len; omega
 have i0 : (0 : Int) ≤ (i : Int) := by omega
 obtain ⟨ad, rfl, hlt, hrd⟩ := hr.rd hv
 obtain ⟨q0, -, -⟩ := vr hrd
 clear hr hv hrd
 go_enter Tryz.func144, Tryz.ntmps144
 go_wp2_with fail
 go_quiet (fail)
 go_wp2
 go_ret
 exact ⟨by simp, below_dn (Below.refl _ _) _⟩
set_option maxHeartbeats 2000000 in
theorem search_any (b1 b2 n c t : Nat) (A : Option Addr) (l : List D.Vn) (w : World) (h1 : w.cell? ⟨b1, 0, none⟩ = some (.slice A n c)) (h2 : w.cell? ⟨b2, 0, none⟩ = some (.int .u64 (t : Nat))) (hr : Shp.Row vS w A n l) (hs : D.Srt l) (hn : n ≤ 1000000) :
  Calls Tryz.prog 143 #[.int .i64 (n : Nat), .func (.func 144) #[] #[.pointer (some ⟨b1, 0, none⟩), .pointer (some ⟨b2, 0, none⟩)]] w fun e w' => e = .returned (.int .i64 (D.cnt l t : Nat)) ∧ Below w.heap.size w w' := by
 have CC := Lib.hid (fun (W : World) (hb : Below w.heap.size w W) i v (hv : l[i]? = some v) => seen1_any b1 b2 n c t i A l v W (cell_kept_ hb h1) (cell_kept_ hb h2) (hr.on hb) hv)
 have HS := Lib.hid hs
 have hlen := hr.len
 clear h1 h2 hr hs
 go_enter Tryz.func143, Tryz.ntmps143
 go_wp2_with fail
 go_loopw [5, 6] (fun x y wr => ∃ lo hi : Nat, x = .int .i64 lo ∧ y = .int .i64 hi ∧ lo ≤ hi ∧ hi ≤ n ∧ Below w.heap.size w wr ∧ Kept ((∀ k v, l[k]? = some v → k < lo → v.a ≤ t) ∧ (∀ k v, l[k]? = some v → hi ≤ k → t < v.a))) (fun x y _ => (intOf y).toNat - (intOf x).toNat)
 case atStart => exact ⟨0, n, rfl, rfl, Nat.zero_le _, Nat.le_refl _, Below.refl _ _, ⟨fun k v _ h => absurd h (by omega), fun k v hv h => absurd (List.getElem?_eq_some_iff.1 hv).1 (by omega)⟩⟩
 case round =>
  obtain ⟨lo, hi, rfl, rfl, hlh, hin, hb, HI⟩ := hrel
  by_cases hlt : lo < hi
  ·obtain ⟨v, hv⟩ : ∃ v, l[(lo + hi) / 2]? = some v := ⟨_, List.getElem?_eq_getElem (by omega)⟩
   have C1 := CC.out wr hb _ v hv
   rw [show (((lo + hi) / 2 : Nat) : Int) = ((lo : Int) + (hi : Int)) / 2 by omega] at C1
   have HV := Lib.hid hv
   clear hv
   by_cases ht : t < v.a
   ·rw [decide_eq_true ht] at C1
    have HT := Lib.hid ht
    clear ht
    go_wp2_with (go_at_call 144; (refine C1.mono ?_); rintro e w1 ⟨rfl, b1⟩)
    go_roundw
    case rel => exact ⟨lo, (lo + hi) / 2, rfl, by rw [show ((lo : Int) + (hi : Int)) / 2 = (((lo + hi) / 2 : Nat) : Int) by omega], by omega, by omega, below_up hb hb.size b1, ⟨HI.out.1, fun k u hu hk => by
     by_cases e : (lo + hi) / 2 = k
     ·subst e; have := HV.out.symm.trans hu; injection this with this; subst this; exact HT.out
     ·have := HS.out.lt HV.out hu (by omega); have := HT.out; omega⟩⟩
    case measure => simp [intOf]; omega
   ·rw [decide_eq_false ht] at C1
    have HT := Lib.hid ht
    clear ht
    go_wp2_with (go_at_call 144; (refine C1.mono ?_); rintro e w1 ⟨rfl, b1⟩)
    go_roundw
    case rel => exact ⟨(lo + hi) / 2 + 1, hi, by rw [show ((lo : Int) + (hi : Int)) / 2 + 1 = (((lo + hi) / 2 + 1 : Nat) : Int) by omega], rfl, by omega, hin, below_up hb hb.size b1, ⟨fun k u hu hk => by
     by_cases e : (lo + hi) / 2 = k
     ·subst e; have := HV.out.symm.trans hu; injection this with this; subst this; have := HT.out; omega
     ·have := HS.out.lt hu HV.out (by omega); have := HT.out; omega, HI.out.2⟩⟩
    case measure => simp [intOf]; omega
  ·obtain rfl : lo = hi := by omega
   have he := D.cnt_is (l := l) (t := t) (i := lo) (by omega) HI.out.1 HI.out.2
   go_wp2
   go_ret
   exact ⟨by rw [he]; rfl, hb⟩
structure Al (w : World) (p A : Option Addr) (n c : Nat) (l : List D.Vn) : Prop where
 all : ∀ W, Below w.heap.size w W → Calls Tryz.prog 110 #[.pointer p] W fun e w' => e = .returned (.slice A n c) ∧ w' = W
 row : Shp.Row vS w A n l
 srt : D.Srt l
 le : n ≤ 1000000
theorem Al.on {w w' : World} {p A : Option Addr} {n c : Nat} {l : List D.Vn} (h : Al w p A n c l) (hb : Below w.heap.size w w') : Al w' p A n c l := ⟨fun W hW => h.all W (below_up hb hb.size hW), h.row.on hb, h.srt, h.le⟩
theorem Al.nil (w : World) : Al w none none 0 0 [] := ⟨fun W _ => all_nil W, Shp.Row.nil _ _, D.Srt.nil, Nat.zero_le _⟩
theorem Al.of {w : World} {g n c : Nat} {A : Option Addr} {l : List D.Vn} (h : w.cell? ⟨g, 0, none⟩ = some (.slice A n c)) (hr : Shp.Row vS w A n l) (hs : D.Srt l) (hn : n ≤ 1000000) : Al w (some ⟨g, 0, none⟩) A n c l :=
 ⟨fun W hW => all_any g n c A W (cell_kept_ hW h), hr, hs, hn⟩
set_option maxHeartbeats 2000000 in
theorem seen_any {w : World} {p : Option Addr} {A : Option Addr} {n c : Nat} {l : List D.Vn} (h : Al w p A n c l) (t : Nat) :
  Calls Tryz.prog 114 #[.pointer p, .int .u64 (t : Nat)] w fun e w' => e = .returned (.agg (vS.v (D.seen l t))) ∧ Below w.heap.size w w' := by
 have hr := h.row
 have hs := h.srt
 have hn := h.le
 have HA := Lib.hid h.all
 have HS := Lib.hid hs
 have hlen := hr.len
 go_enter Tryz.func114, Tryz.ntmps114
 go_wp2_with fail
 have z0 : Below w.heap.size w ((w.alloc (.cells #[.int .u64 (t : Nat)] 42)).alloc (.cells #[.int .u64 0, .bool false, .int .u8 0, .int .u8 0, .int .u8 0, .int .u8 0, .int .u8 0, .bool false, .int .u32 0, .int .u64 0, .string ⟨#[]⟩] 194)) := ((Below.refl _ _).alloc (Nat.le_refl _) _).alloc (by simp) _
 have f1 : ((w.alloc (.cells #[.int .u64 (t : Nat)] 42)).alloc (.cells #[.int .u64 0, .bool false, .int .u8 0, .int .u8 0, .int .u8 0, .int .u8 0, .int .u8 0, .bool false, .int .u32 0, .int .u64 0, .string ⟨#[]⟩] 194)).cell? ⟨w.heap.size, 0, none⟩ = some (.int .u64 (t : Nat)) := ((Blk.new w _ _).alloc _).cell
 have f2 : Shp.tn 11 ((w.alloc (.cells #[.int .u64 (t : Nat)] 42)).alloc (.cells #[.int .u64 0, .bool false, .int .u8 0, .int .u8 0, .int .u8 0, .int .u8 0, .int .u8 0, .bool false, .int .u32 0, .int .u64 0, .string ⟨#[]⟩] 194)) (w.heap.size + 1) = true := Shp.tn_new _ _ _ _ _ (by simp) rfl
 generalize (w.alloc (.cells #[.int .u64 (t : Nat)] 42)).alloc (.cells #[.int .u64 0, .bool false, .int .u8 0, .int .u8 0, .int .u8 0, .int .u8 0, .int .u8 0, .bool false, .int .u32 0, .int .u64 0, .string ⟨#[]⟩] 194) = W0 at z0 f1 f2 ⊢
 refine (HA.out W0 z0).mono ?_
 rintro e w1 ⟨rfl, rfl⟩
 have hB := Blk.new w1 187 #[.slice A n c]
 have z1 := below_alloc_ w1 (.cells #[.slice A n c] 187)
 obtain ⟨W1, hW1⟩ : ∃ W1, w1.alloc (.cells #[.slice A n c] 187) = W1 := ⟨_, rfl⟩
 rw [hW1] at hB z1
 have CS := Lib.hid (search_any w1.heap.size w.heap.size n c t A l W1 hB.cell (cell_kept_ z1 f1) ((hr.on z0).on z1) hs hn)
 have hZ := Lib.hid (z0.trans (z1.mono z0.size))
 have f3 := Shp.tn_on f2 z1
 have c1 := hB.cell
 have hr1 := (hr.on z0).on z1
 clear hr h hB z0 z1 f1 f2
 have hcl := D.cnt_le l t
 by_cases hc : D.cnt l t = 0
 ·rw [hc] at CS
  have HE := Lib.hid (D.seen_0 hc)
  clear hr1
  go_wp2_with (go_at_call 143; (with_reducible refine CS.out.mono ?_); rintro e w2 ⟨rfl, b2⟩; have f4 := Shp.tn_on f3 b2)
  refine bodyPost_ret (v := .agg (vS.v (D.dd 0))) (by rw [results_cell1 rfl]; simp [asAddr, Result.andThen, lvv_of (Shp.rd_set (S := vS) w2 (w.heap.size + 1) (D.dd 0) f4)]) rfl ⟨by rw [HE.out], ?_⟩
  exact bel_setRow (below_up hZ.out hZ.out.size b2) (by omega) _
 ·obtain ⟨v, hv, he, -⟩ := D.seen_mem hc
  have HE := Lib.hid he
  have i0 : ¬ ((D.cnt l t : Int) = 0) := by omega
  have i1 : (0 : Int) ≤ (D.cnt l t : Int) - 1 := by omega
  have i2 : (D.cnt l t : Int) - 1 < (n : Int) := by omega
  have i3 : (((D.cnt l t - 1 : Nat)) : Int) = (D.cnt l t : Int) - 1 := by omega
  obtain ⟨k, hk⟩ : ∃ k, D.cnt l t = k + 1 := ⟨D.cnt l t - 1, by omega⟩
  obtain ⟨ad, rfl, hlt, hrd⟩ := hr1.rd hv
  rw [hk, Nat.add_sub_cancel] at hrd
  have HRD := Lib.hid hrd
  rw [hk] at CS hcl
  have j1 : (k : Int) < (n : Int) := by omega
  clear hr1 hrd i0 i1 i2 i3 he hv
  go_wp2_with (go_at_call 143; (with_reducible refine CS.out.mono ?_); rintro e w2 ⟨rfl, b2⟩; have f4 := Shp.tn_on f3 b2; have c2 := cell_kept_ b2 c1; have r2 : vS.rd w2 (ad.add (k * 11)) = some v := Shp.rd_on HRD.out b2)
  refine bodyPost_ret (v := .agg (vS.v v)) (by rw [results_cell1 rfl]; simp [asAddr, Result.andThen, lvv_of (Shp.rd_set (S := vS) w2 (w.heap.size + 1) v f4)]) rfl ⟨by rw [HE.out], ?_⟩
  exact bel_setRow (below_up hZ.out hZ.out.size b2) (by omega) _
end Go.Proofs.YtjlaffgbmcpldaaGreatDoor
