/-
  Del, Len and Has of a set.
-/
import Derived.Test.YtgfpdfafkimkcaaAdd
import Derived.Test.YtgfpdfafkimkcaaStep
set_option linter.unusedVariables false
set_option linter.unusedSimpArgs false
namespace Go.Proofs.Ytgfpdfafkimkcaa
open Go.RowKit Go.Sort
open Go.Maps (Keyed)
attribute [local go_sem ↓] Go.wp_at_zero Go.wp_at_succ ld_a ld_n st_a st_n eq_a eq_n ne_a ne_n bsl_a bsl_n lv_a lv_n
attribute [local go_sem] run_ld_a run_ld_n run_st_n run_eq_a run_eq_n run_ne_a run_ne_n run_bsl1_a run_bsl1_n run_bsl2 run_lv_a run_lv_n st_z ne_z rd_new rd_old rd_drew rd_drewN rd_ext

/-- What Del tells. -/
def Deled (base p : Nat) (M : Option Nat) (L L' : List D.Nm) (w : World) (e : Ending) (w' : World) : Prop :=
  e = .returned (.int .i64 ((L.length : Int) - (L'.length : Int))) ∧ SetP base w' p M L' ∧ Only (Sf p M) w w'
set_option maxRecDepth 100000 in
set_option maxHeartbeats 1000000 in
theorem del_some (base p b : Nat) (A : Option Addr) (n c : Nat) (L l : List D.Nm) (w : World) (hs : SetP base w p (some b) L) (hL : Held L) (hl : NRow w A n l) (hA : ∀ ad, A = some ad → ¬ Sf p (some b) ad.block) (hn : n ≤ 1000) :
    Calls Try.prog 23 #[.pointer (some ⟨p, 0, none⟩), .slice A n c] w (Deled base p (some b) L (dels L l) w) := by
  have c0 := hs.blk.cell
  have hm := (hs.at_ b rfl).1
  have hlen := hm.len
  have hpb : p ≠ b := hm.no_cells hs.blk
  have hbase := (hs.at_ b rfl).2
  have hple := hs.le
  have B0 := hs.blk
  clear hs
  go_enter Try.func23, Try.ntmps23
  go_wp2
  clear hlen c0
  go_loopw [17] (fun i wr => ∃ k : Nat, k ≤ n ∧ i = .int .i64 k ∧ Blk wr p 48 #[.map (some b)] ∧ MapAt wr b (dels L (l.take k)) ∧ Only (Sf p (some b)) w wr) (fun i _ => n - (intOf i).toNat)
  case atStart => exact ⟨0, Nat.zero_le _, rfl, B0, hm, Only.self _ _⟩
  case round =>
    obtain ⟨k, hk, rfl, hb, hm', ho⟩ := hrel
    by_cases hlt : k < n
    · obtain ⟨x, hx⟩ := nat_lt (l := l) (i := k) (by rw [hl.len]; exact hlt)
      obtain ⟨ad, rfl, hadl, hr⟩ := (hl.only ho hA).rd hx
      have HN := dels_next (L := L) hx
      have HK := hL.dels (l.take k)
      obtain ⟨K, hK⟩ : ∃ K, dels L (l.take k) = K := ⟨_, rfl⟩
      rw [hK] at hm' HN HK
      have HN2 := Lib.hid HN
      have i1 : (k : Int) < (n : Int) := by omega
      have i0 : (0 : Int) ≤ (k : Int) := by omega
      have c1 := (hb.alloc (.cells (nc x) 23)).cell
      have f1 := rd_new wr _ 23 x rfl
      have hr2 : rd wr (ad.add (k * 12)) = some x := hr
      clear hK hx HN
      go_wp2_with fail
      have hbW := hb.alloc (.cells (nc x) 23)
      have hmW := hm'.alloc (.cells (nc x) 23)
      have hoW := ho.alloc (.cells (nc x) 23)
      generalize wr.alloc (.cells (nc x) 23) = w2 at c1 f1 hbW hmW hoW ⊢
      go_still_tail 5, (by kernel_rfl)
      change wpList _ _ _ _ _ w2.drew
      obtain ⟨w3, hd, hm3, hg3⟩ := hmW.drew.drop HK.nodup x 0
      go_wp2
      go_roundw
      case rel => exact ⟨k + 1, by omega, by go_num, hbW.drew.grown hg3 (by intro e; injection e with e; exact hpb e), by rw [HN2.out]; exact hm3, (hoW.on ((Below.refl _ _).drew)).grown hg3 (fun j hj => .inl (.inr hj))⟩
      case measure => simp [intOf]; omega
    · have e : l.take k = l := List.take_of_length_le (by rw [hl.len]; omega)
      rw [e] at hm'
      have hge := dels_le L l
      have c1 := hb.cell
      have len1 := hm'.len
      obtain ⟨K, hK⟩ : ∃ K, dels L l = K := ⟨_, rfl⟩
      have HKL : Kept (dels L l = K) := ⟨hK⟩
      rw [hK] at hm' hge len1
      have h64 := hL.le
      have i1 : (n : Int) ≤ (k : Int) := by omega
      clear e hK
      go_wp2
      go_ret
      exact ⟨by rw [HKL.out]; rfl, ⟨hb, hple, fun b' e => by injection e with e; subst e; rw [HKL.out]; exact ⟨hm', hbase⟩, fun e => by cases e⟩, ho⟩

theorem dels_nil (l : List D.Nm) : dels [] l = [] := by
  induction l with
  | nil => rfl
  | cons x l ih => exact ih
set_option maxRecDepth 100000 in
set_option maxHeartbeats 1000000 in
theorem del_none (base p : Nat) (A : Option Addr) (n c : Nat) (l : List D.Nm) (w : World) (hs : SetP base w p none []) (hl : NRow w A n l) (hA : ∀ ad, A = some ad → ¬ Sf p none ad.block) (hn : n ≤ 1000) :
    Calls Try.prog 23 #[.pointer (some ⟨p, 0, none⟩), .slice A n c] w (Deled base p none [] (dels [] l) w) := by
  rw [dels_nil]
  have c0 := hs.blk.cell
  have hlen := fun W ty => Maps.len_nil (P := Try.prog) (w := W) Try.underlying46 ty
  have B0 := hs.blk
  have hple := hs.le
  clear hs
  go_enter Try.func23, Try.ntmps23
  go_wp2
  clear c0
  go_loopw [17] (fun i wr => ∃ k : Nat, k ≤ n ∧ i = .int .i64 k ∧ Blk wr p 48 #[.map none] ∧ Only (Sf p none) w wr) (fun i _ => n - (intOf i).toNat)
  case atStart => exact ⟨0, Nat.zero_le _, rfl, B0, Only.self _ _⟩
  case round =>
    obtain ⟨k, hk, rfl, hb, ho⟩ := hrel
    by_cases hlt : k < n
    · obtain ⟨x, hx⟩ := nat_lt (l := l) (i := k) (by rw [hl.len]; exact hlt)
      obtain ⟨ad, rfl, hadl, hr⟩ := (hl.only ho hA).rd hx
      have i1 : (k : Int) < (n : Int) := by omega
      have i0 : (0 : Int) ≤ (k : Int) := by omega
      have c1 := (hb.alloc (.cells (nc x) 23)).cell
      have f1 := rd_new wr _ 23 x rfl
      have hr2 : rd wr (ad.add (k * 12)) = some x := hr
      clear hx
      go_wp2_with fail
      have hbW := hb.alloc (.cells (nc x) 23)
      have hoW := ho.alloc (.cells (nc x) 23)
      generalize wr.alloc (.cells (nc x) 23) = w2 at c1 f1 hbW hoW ⊢
      go_still_tail 5, (by kernel_rfl)
      change wpList _ _ _ _ _ w2.drew
      have hd := Maps.drop_nil (P := Try.prog) (w := w2.drew) law_n Try.underlying46 (kl_is x) 0
      go_wp2
      go_roundw
      case rel => exact ⟨k + 1, by omega, by go_num, hbW.drew, hoW.on ((Below.refl _ _).drew)⟩
      case measure => simp [intOf]; omega
    · have c1 := hb.cell
      have i1 : (n : Int) ≤ (k : Int) := by omega
      go_wp2
      go_ret
      exact ⟨rfl, ⟨hb, hple, fun b' e => (by cases e), fun _ => rfl⟩, ho⟩
theorem del_any (base p : Nat) (M : Option Nat) (B : Option Addr) (n c : Nat) (L l : List D.Nm) (w : World) (hs : SetP base w p M L) (hL : Held L) (hl : NRow w B n l) (hB : ∀ ad, B = some ad → ¬ Sf p M ad.block) (hn : n ≤ 1000) :
    Calls Try.prog 23 #[.pointer (some ⟨p, 0, none⟩), .slice B n c] w (Deled base p M L (dels L l) w) := by
  cases M with
  | none =>
    obtain rfl := hs.no rfl
    exact del_none base p B n c l w hs hl hB hn
  | some b => exact del_some base p b B n c L l w hs hL hl hB hn

set_option maxHeartbeats 1000000 in
theorem len_any (base p : Nat) (M : Option Nat) (L : List D.Nm) (w : World) (hs : SetP base w p M L) :
    Calls Try.prog 26 #[.pointer (some ⟨p, 0, none⟩)] w fun e w' => e = .returned (.int .i64 (L.length : Nat)) ∧ w = w' := by
  have c0 := hs.blk.cell
  cases M with
  | none =>
    obtain rfl := hs.no rfl
    have hlen := fun W ty => Maps.len_nil (P := Try.prog) (w := W) Try.underlying46 ty
    clear hs
    go_enter Try.func26, Try.ntmps26
    go_wp2
    go_ret
    exact ⟨rfl, rfl⟩
  | some b =>
    have hlen := (hs.at_ b rfl).1.len
    clear hs
    go_enter Try.func26, Try.ntmps26
    go_wp2
    go_ret
    exact ⟨rfl, rfl⟩
set_option maxHeartbeats 1000000 in
theorem has_some (base p b : Nat) (L : List D.Nm) (x : D.Nm) (w : World) (hs : SetP base w p (some b) L) :
    Calls Try.prog 27 #[.pointer (some ⟨p, 0, none⟩), .agg (nc x)] w fun e w' => e = .returned (.bool (decide (x ∈ L))) ∧ Below w.heap.size w w' := by
  have hbW := hs.blk.alloc (.cells (nc x) 23)
  have hm := (hs.at_ b rfl).1.alloc (.cells (nc x) 23)
  have f0 := rd_new w _ 23 x rfl
  have hb1 := below_alloc_ w (.cells (nc x) 23)
  obtain ⟨h, hh⟩ : ∃ h, decide (x ∈ L) = h := ⟨_, rfl⟩
  have HH := Lib.hid hh
  clear hs
  go_enter Try.func27, Try.ntmps27
  go_wp2_with fail
  generalize w.alloc (.cells (nc x) 23) = w0 at hbW hm f0 hb1 ⊢
  have cB := Lib.hid (fun (W : World) (hW : Below w0.heap.size w0 W) => (hbW.on hW).cell)
  have fB := Lib.hid (fun (W : World) (hW : Below w0.heap.size w0 W) => rd_on f0 hW)
  have lB := Lib.hid (fun (W : World) (hW : Below w0.heap.size w0 W) => (hm.on hW).look x)
  rw [hh] at lB
  clear hbW hm f0 hh
  refine wp_region_noPanic ?_
  refine wp_region_held_drew (S := fun W => Below w0.heap.size w0 W) (by kernel_rfl) (Below.refl _ _).drew (fun _ => ?_)
  refine takeS 0 (some 10) ?v0 (by kernel_rfl) (by kernel_rfl) (by kernel_rfl) (by kernel_rfl) (fun _ _ _ h => h) (by rfl) ?hy0 (Below.refl _ _).drew ?rest0
  case hy0 => (intro o ho W hW; simp only [List.getElem?_toArray, List.getElem?_cons_succ, List.getElem?_cons_zero, Option.some.injEq] at ho; subst ho; have g1 := cB.out W hW; have g2 := fB.out W hW; have g3 := lB.out W hW; clear hW; go_simp; try rfl)
  try simp only [Act.put, List.setIfInBounds_toArray, List.set_cons_zero, List.set_cons_succ]
  refine takeS 1 (some 11) ?v1 (by kernel_rfl) (by kernel_rfl) (by kernel_rfl) (by kernel_rfl) (fun _ _ _ h => h) (by rfl) ?hy1 (Below.refl _ _).drew ?rest1
  case hy1 => (intro o ho W hW; simp only [List.getElem?_toArray, List.getElem?_cons_succ, List.getElem?_cons_zero, Option.some.injEq] at ho; subst ho; have g1 := cB.out W hW; have g2 := fB.out W hW; have g3 := lB.out W hW; clear hW; go_simp; try rfl)
  try simp only [Act.put, List.setIfInBounds_toArray, List.set_cons_zero, List.set_cons_succ]
  refine takeS 2 (some 12) ?v2 (by kernel_rfl) (by kernel_rfl) (by kernel_rfl) (by kernel_rfl) (fun _ _ _ h => h) (by rfl) ?hy2 (Below.refl _ _).drew ?rest2
  case hy2 => (intro o ho W hW; simp only [List.getElem?_toArray, List.getElem?_cons_succ, List.getElem?_cons_zero, Option.some.injEq] at ho; subst ho; have g1 := cB.out W hW; have g2 := fB.out W hW; have g3 := lB.out W hW; clear hW; go_simp; try rfl)
  try simp only [Act.put, List.setIfInBounds_toArray, List.set_cons_zero, List.set_cons_succ]
  refine takeS 3 (some 13) ?v3 (by kernel_rfl) (by kernel_rfl) (by kernel_rfl) (by kernel_rfl) (fun _ _ _ h => h) (by rfl) ?hy3 (Below.refl _ _).drew ?rest3
  case hy3 => (intro o ho W hW; simp only [List.getElem?_toArray, List.getElem?_cons_succ, List.getElem?_cons_zero, Option.some.injEq] at ho; subst ho; have g1 := cB.out W hW; have g2 := fB.out W hW; have g3 := lB.out W hW; clear hW; go_simp; try rfl)
  try simp only [Act.put, List.setIfInBounds_toArray, List.set_cons_zero, List.set_cons_succ]
  refine takeS 4 (some 14) ?v4 (by kernel_rfl) (by kernel_rfl) (by kernel_rfl) (by kernel_rfl) (fun _ _ _ h => h) (by rfl) ?hy4 (Below.refl _ _).drew ?rest4
  case hy4 => (intro o ho W hW; simp only [List.getElem?_toArray, List.getElem?_cons_succ, List.getElem?_cons_zero, Option.some.injEq] at ho; subst ho; have g1 := cB.out W hW; have g2 := fB.out W hW; have g3 := lB.out W hW; clear hW; go_simp; try rfl)
  try simp only [Act.put, List.setIfInBounds_toArray, List.set_cons_zero, List.set_cons_succ]
  refine takeS 5 (some 15) ?v5 (by kernel_rfl) (by kernel_rfl) (by kernel_rfl) (by kernel_rfl) (fun _ _ _ h => h) (by rfl) ?hy5 (Below.refl _ _).drew ?rest5
  case hy5 => (intro o ho W hW; simp only [List.getElem?_toArray, List.getElem?_cons_succ, List.getElem?_cons_zero, Option.some.injEq] at ho; subst ho; have g1 := cB.out W hW; have g2 := fB.out W hW; have g3 := lB.out W hW; clear hW; go_simp; try rfl)
  try simp only [Act.put, List.setIfInBounds_toArray, List.set_cons_zero, List.set_cons_succ]
  refine takeS 6 (some 9) ?v6 (by kernel_rfl) (by kernel_rfl) (by kernel_rfl) (by kernel_rfl) (fun _ _ _ h => h) (by rfl) ?hy6 (Below.refl _ _).drew ?rest6
  case hy6 => (intro o ho W hW; simp only [List.getElem?_toArray, List.getElem?_cons_succ, List.getElem?_cons_zero, Option.some.injEq] at ho; subst ho; have g1 := cB.out W hW; have g2 := fB.out W hW; have g3 := lB.out W hW; clear hW; go_simp; try rfl)
  try simp only [Act.put, List.setIfInBounds_toArray, List.set_cons_zero, List.set_cons_succ]
  refine takeS 7 (some 16) ?v7 (by kernel_rfl) (by kernel_rfl) (by kernel_rfl) (by kernel_rfl) (fun _ _ _ h => h) (by rfl) ?hy7 (Below.refl _ _).drew ?rest7
  case hy7 => (intro o ho W hW; simp only [List.getElem?_toArray, List.getElem?_cons_succ, List.getElem?_cons_zero, Option.some.injEq] at ho; subst ho; have g1 := cB.out W hW; have g2 := fB.out W hW; have g3 := lB.out W hW; clear hW; go_simp; try rfl)
  try simp only [Act.put, List.setIfInBounds_toArray, List.set_cons_zero, List.set_cons_succ]
  refine takeS 8 (some 17) ?v8 (by kernel_rfl) (by kernel_rfl) (by kernel_rfl) (by kernel_rfl) (fun _ _ _ h => h) (by rfl) ?hy8 (Below.refl _ _).drew ?rest8
  case hy8 => (intro o ho W hW; simp only [List.getElem?_toArray, List.getElem?_cons_succ, List.getElem?_cons_zero, Option.some.injEq] at ho; subst ho; have g1 := cB.out W hW; have g2 := fB.out W hW; have g3 := lB.out W hW; clear hW; go_simp; try rfl)
  try simp only [Act.put, List.setIfInBounds_toArray, List.set_cons_zero, List.set_cons_succ]
  refine nextS 9 (by kernel_rfl) (by rfl) (fun o ho K hK => ?_)
  simp only [List.getElem?_toArray, List.getElem?_cons_succ, List.getElem?_cons_zero, Option.some.injEq] at ho; subst ho
  go_simp
  refine hK.out _ _ (below_alloc_ _ _).drew (fun _ => ?_)
  clear hK K
  try simp only [Act.put, List.setIfInBounds_toArray, List.set_cons_zero, List.set_cons_succ]
  refine nextS 10 (by kernel_rfl) (by rfl) (fun o ho K hK => ?_)
  simp only [List.getElem?_toArray, List.getElem?_cons_succ, List.getElem?_cons_zero, Option.some.injEq] at ho; subst ho
  go_simp
  refine hK.out _ _ (below_alloc_ _ _).drew (fun _ => ?_)
  clear hK K
  try simp only [Act.put, List.setIfInBounds_toArray, List.set_cons_zero, List.set_cons_succ]
  refine takeS 11 (some 6) ?v11 (by kernel_rfl) (by kernel_rfl) (by kernel_rfl) (by kernel_rfl) (fun _ _ _ h => h) (by rfl) ?hy11 (below_alloc_ _ _).drew ?rest11
  case hy11 => (intro o ho W hW; simp only [List.getElem?_toArray, List.getElem?_cons_succ, List.getElem?_cons_zero, Option.some.injEq] at ho; subst ho; have g1 := cB.out W hW; have g2 := fB.out W hW; have g3 := lB.out W hW; clear hW; go_simp; try rfl)
  try simp only [Act.put, List.setIfInBounds_toArray, List.set_cons_zero, List.set_cons_succ]
  refine wpAnyH_done (by kernel_rfl) ?_ _
  refine NoPanic.normal ?_
  go_wp2
  go_ret
  exact ⟨by rw [HH.out]; rfl, hb1.trans ((below_alloc_ _ _).drew.mono hb1.size)⟩
set_option maxHeartbeats 1000000 in
theorem has_none (base p : Nat) (x : D.Nm) (w : World) (hs : SetP base w p none []) :
    Calls Try.prog 27 #[.pointer (some ⟨p, 0, none⟩), .agg (nc x)] w fun e w' => e = .returned (.bool false) ∧ Below w.heap.size w w' := by
  have hbW := hs.blk.alloc (.cells (nc x) 23)
  have f0 := rd_new w _ 23 x rfl
  have hb1 := below_alloc_ w (.cells (nc x) 23)
  clear hs
  go_enter Try.func27, Try.ntmps27
  go_wp2_with fail
  generalize w.alloc (.cells (nc x) 23) = w0 at hbW f0 hb1 ⊢
  have cB := Lib.hid (fun (W : World) (hW : Below w0.heap.size w0 W) => (hbW.on hW).cell)
  have fB := Lib.hid (fun (W : World) (hW : Below w0.heap.size w0 W) => rd_on f0 hW)
  have lB := Lib.hid (fun (W : World) (hW : Below w0.heap.size w0 W) => Maps.look_nil (P := Try.prog) (w := W) true law_n Try.underlying46 (z := .agg #[]) (by kernel_rfl) (kl_is x))
  clear hbW f0
  refine wp_region_noPanic ?_
  refine wp_region_held_drew (S := fun W => Below w0.heap.size w0 W) (by kernel_rfl) (Below.refl _ _).drew (fun _ => ?_)
  refine takeS 0 (some 10) ?v0 (by kernel_rfl) (by kernel_rfl) (by kernel_rfl) (by kernel_rfl) (fun _ _ _ h => h) (by rfl) ?hy0 (Below.refl _ _).drew ?rest0
  case hy0 => (intro o ho W hW; simp only [List.getElem?_toArray, List.getElem?_cons_succ, List.getElem?_cons_zero, Option.some.injEq] at ho; subst ho; have g1 := cB.out W hW; have g2 := fB.out W hW; have g3 := lB.out W hW; clear hW; go_simp; try rfl)
  try simp only [Act.put, List.setIfInBounds_toArray, List.set_cons_zero, List.set_cons_succ]
  refine takeS 1 (some 11) ?v1 (by kernel_rfl) (by kernel_rfl) (by kernel_rfl) (by kernel_rfl) (fun _ _ _ h => h) (by rfl) ?hy1 (Below.refl _ _).drew ?rest1
  case hy1 => (intro o ho W hW; simp only [List.getElem?_toArray, List.getElem?_cons_succ, List.getElem?_cons_zero, Option.some.injEq] at ho; subst ho; have g1 := cB.out W hW; have g2 := fB.out W hW; have g3 := lB.out W hW; clear hW; go_simp; try rfl)
  try simp only [Act.put, List.setIfInBounds_toArray, List.set_cons_zero, List.set_cons_succ]
  refine takeS 2 (some 12) ?v2 (by kernel_rfl) (by kernel_rfl) (by kernel_rfl) (by kernel_rfl) (fun _ _ _ h => h) (by rfl) ?hy2 (Below.refl _ _).drew ?rest2
  case hy2 => (intro o ho W hW; simp only [List.getElem?_toArray, List.getElem?_cons_succ, List.getElem?_cons_zero, Option.some.injEq] at ho; subst ho; have g1 := cB.out W hW; have g2 := fB.out W hW; have g3 := lB.out W hW; clear hW; go_simp; try rfl)
  try simp only [Act.put, List.setIfInBounds_toArray, List.set_cons_zero, List.set_cons_succ]
  refine takeS 3 (some 13) ?v3 (by kernel_rfl) (by kernel_rfl) (by kernel_rfl) (by kernel_rfl) (fun _ _ _ h => h) (by rfl) ?hy3 (Below.refl _ _).drew ?rest3
  case hy3 => (intro o ho W hW; simp only [List.getElem?_toArray, List.getElem?_cons_succ, List.getElem?_cons_zero, Option.some.injEq] at ho; subst ho; have g1 := cB.out W hW; have g2 := fB.out W hW; have g3 := lB.out W hW; clear hW; go_simp; try rfl)
  try simp only [Act.put, List.setIfInBounds_toArray, List.set_cons_zero, List.set_cons_succ]
  refine takeS 4 (some 14) ?v4 (by kernel_rfl) (by kernel_rfl) (by kernel_rfl) (by kernel_rfl) (fun _ _ _ h => h) (by rfl) ?hy4 (Below.refl _ _).drew ?rest4
  case hy4 => (intro o ho W hW; simp only [List.getElem?_toArray, List.getElem?_cons_succ, List.getElem?_cons_zero, Option.some.injEq] at ho; subst ho; have g1 := cB.out W hW; have g2 := fB.out W hW; have g3 := lB.out W hW; clear hW; go_simp; try rfl)
  try simp only [Act.put, List.setIfInBounds_toArray, List.set_cons_zero, List.set_cons_succ]
  refine takeS 5 (some 15) ?v5 (by kernel_rfl) (by kernel_rfl) (by kernel_rfl) (by kernel_rfl) (fun _ _ _ h => h) (by rfl) ?hy5 (Below.refl _ _).drew ?rest5
  case hy5 => (intro o ho W hW; simp only [List.getElem?_toArray, List.getElem?_cons_succ, List.getElem?_cons_zero, Option.some.injEq] at ho; subst ho; have g1 := cB.out W hW; have g2 := fB.out W hW; have g3 := lB.out W hW; clear hW; go_simp; try rfl)
  try simp only [Act.put, List.setIfInBounds_toArray, List.set_cons_zero, List.set_cons_succ]
  refine takeS 6 (some 9) ?v6 (by kernel_rfl) (by kernel_rfl) (by kernel_rfl) (by kernel_rfl) (fun _ _ _ h => h) (by rfl) ?hy6 (Below.refl _ _).drew ?rest6
  case hy6 => (intro o ho W hW; simp only [List.getElem?_toArray, List.getElem?_cons_succ, List.getElem?_cons_zero, Option.some.injEq] at ho; subst ho; have g1 := cB.out W hW; have g2 := fB.out W hW; have g3 := lB.out W hW; clear hW; go_simp; try rfl)
  try simp only [Act.put, List.setIfInBounds_toArray, List.set_cons_zero, List.set_cons_succ]
  refine takeS 7 (some 16) ?v7 (by kernel_rfl) (by kernel_rfl) (by kernel_rfl) (by kernel_rfl) (fun _ _ _ h => h) (by rfl) ?hy7 (Below.refl _ _).drew ?rest7
  case hy7 => (intro o ho W hW; simp only [List.getElem?_toArray, List.getElem?_cons_succ, List.getElem?_cons_zero, Option.some.injEq] at ho; subst ho; have g1 := cB.out W hW; have g2 := fB.out W hW; have g3 := lB.out W hW; clear hW; go_simp; try rfl)
  try simp only [Act.put, List.setIfInBounds_toArray, List.set_cons_zero, List.set_cons_succ]
  refine takeS 8 (some 17) ?v8 (by kernel_rfl) (by kernel_rfl) (by kernel_rfl) (by kernel_rfl) (fun _ _ _ h => h) (by rfl) ?hy8 (Below.refl _ _).drew ?rest8
  case hy8 => (intro o ho W hW; simp only [List.getElem?_toArray, List.getElem?_cons_succ, List.getElem?_cons_zero, Option.some.injEq] at ho; subst ho; have g1 := cB.out W hW; have g2 := fB.out W hW; have g3 := lB.out W hW; clear hW; go_simp; try rfl)
  try simp only [Act.put, List.setIfInBounds_toArray, List.set_cons_zero, List.set_cons_succ]
  refine nextS 9 (by kernel_rfl) (by rfl) (fun o ho K hK => ?_)
  simp only [List.getElem?_toArray, List.getElem?_cons_succ, List.getElem?_cons_zero, Option.some.injEq] at ho; subst ho
  go_simp
  refine hK.out _ _ (below_alloc_ _ _).drew (fun _ => ?_)
  clear hK K
  try simp only [Act.put, List.setIfInBounds_toArray, List.set_cons_zero, List.set_cons_succ]
  refine nextS 10 (by kernel_rfl) (by rfl) (fun o ho K hK => ?_)
  simp only [List.getElem?_toArray, List.getElem?_cons_succ, List.getElem?_cons_zero, Option.some.injEq] at ho; subst ho
  go_simp
  refine hK.out _ _ (below_alloc_ _ _).drew (fun _ => ?_)
  clear hK K
  try simp only [Act.put, List.setIfInBounds_toArray, List.set_cons_zero, List.set_cons_succ]
  refine takeS 11 (some 6) ?v11 (by kernel_rfl) (by kernel_rfl) (by kernel_rfl) (by kernel_rfl) (fun _ _ _ h => h) (by rfl) ?hy11 (below_alloc_ _ _).drew ?rest11
  case hy11 => (intro o ho W hW; simp only [List.getElem?_toArray, List.getElem?_cons_succ, List.getElem?_cons_zero, Option.some.injEq] at ho; subst ho; have g1 := cB.out W hW; have g2 := fB.out W hW; have g3 := lB.out W hW; clear hW; go_simp; try rfl)
  try simp only [Act.put, List.setIfInBounds_toArray, List.set_cons_zero, List.set_cons_succ]
  refine wpAnyH_done (by kernel_rfl) ?_ _
  refine NoPanic.normal ?_
  go_wp2
  go_ret
  exact ⟨rfl, hb1.trans ((below_alloc_ _ _).drew.mono hb1.size)⟩
theorem has_any (base p : Nat) (M : Option Nat) (L : List D.Nm) (x : D.Nm) (w : World) (hs : SetP base w p M L) :
    Calls Try.prog 27 #[.pointer (some ⟨p, 0, none⟩), .agg (nc x)] w fun e w' => e = .returned (.bool (decide (x ∈ L))) ∧ Below w.heap.size w w' := by
  cases M with
  | none =>
    obtain rfl := hs.no rfl
    exact has_none base p x w hs
  | some b => exact has_some base p b L x w hs
end Go.Proofs.Ytgfpdfafkimkcaa
