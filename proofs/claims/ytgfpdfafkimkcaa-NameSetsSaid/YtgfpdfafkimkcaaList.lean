/-
  The list of a set.
-/
import Derived.Test.YtgfpdfafkimkcaaSorts
set_option linter.unusedVariables false
set_option linter.unusedSimpArgs false
namespace Go.Proofs.Ytgfpdfafkimkcaa
open Go.RowKit Go.Sort
open Go.Maps (Keyed)
attribute [local go_sem ↓] Go.wp_at_zero Go.wp_at_succ ld_a ld_n st_a st_n eq_a eq_n ne_a ne_n bsl_a bsl_n lv_a lv_n
attribute [local go_sem] run_ld_a run_ld_n run_st_n run_eq_a run_eq_n run_ne_a run_ne_n run_bsl1_a run_bsl1_n run_bsl2 run_lv_a run_lv_n st_z ne_z rd_new rd_old rd_drew rd_drewN rd_ext

theorem perm_same : ∀ {k L : List D.Nm}, k.Nodup → L.Nodup → (∀ x, x ∈ k ↔ x ∈ L) → k.Perm L
  | [], L, _, _, h => by
    cases L with
    | nil => exact .refl _
    | cons y L => exact absurd ((h y).2 (List.mem_cons_self ..)) (by simp)
  | x :: k, L, hk, hL, h => by
    obtain ⟨s, t, rfl⟩ := List.append_of_mem ((h x).1 (List.mem_cons_self ..))
    have hp : (s ++ x :: t).Perm (x :: (s ++ t)) := List.perm_middle
    have hn := hp.nodup_iff.1 hL
    have hx := (List.nodup_cons.1 hn).1
    have hx' := (List.nodup_cons.1 hk).1
    refine .trans ?_ hp.symm
    refine .cons x (perm_same (List.nodup_cons.1 hk).2 (List.nodup_cons.1 hn).2 fun y => ?_)
    have hy := (h y).trans hp.mem_iff
    simp only [List.mem_cons] at hy
    by_cases e : y = x
    · subst e
      exact ⟨fun h => absurd h hx', fun h => absurd h hx⟩
    · simpa [e] using hy

theorem iter_ne {k : TypeId} {R : Value → Option (DataW Unit × List MemPlace)} {w : World} {b r N base e n c : Nat} {D0 : DataW Unit} {left : Lit → Bool} {cnt : Nat} {A : Option Addr} {l : List D.Nm}
    (h : NOwn base e w A n c l) (hr : w.ranges Try.prog k R b r N D0 left cnt) : some r ≠ (Value.slice A n c).ownBlock := by
  obtain ⟨_, _, _, _, _, _, _, _, _, hit, _⟩ := hr
  rcases h.row.2 with ⟨h0, _⟩ | ⟨g, cap, cur, h0, _, hb, _⟩
  · rw [h0]; simp [Value.ownBlock]
  · rw [h0]
    intro e1
    have : r = g := by simpa [Value.ownBlock] using e1
    subst this
    rw [hit] at hb
    cases hb
theorem low_ne {base e n c b : Nat} {w : World} {A : Option Addr} {l : List D.Nm} (h : NOwn base e w A n c l) (hb : b < base) : some b ≠ (Value.slice A n c).ownBlock := fun e1 => by
  have := (h.lt b e1.symm).1
  omega
/-- Which names are still to come. -/
structure Left (L ks : List D.Nm) (left : Lit → Bool) (cnt : Nat) : Prop where
  at_ : ∀ x, left (kl x) = decide (x ∈ L ∧ x ∉ ks)
  nodup : ks.Nodup
  sub : ∀ x ∈ ks, x ∈ L
  le : ks.length + cnt ≤ L.length
theorem Left.next {L ks : List D.Nm} {left : Lit → Bool} {cnt cnt' : Nat} (h : Left L ks left cnt) {x : D.Nm} {l : Lit} (hk : keyOf Try.prog 23 (.agg (nc x)) = some l) (hl : left l = true) (hc : cnt' < cnt) :
    Left L (ks ++ [x]) (fun z => left z && !z.sameKey l) cnt' := by
  rw [kl_is x] at hk
  injection hk with hk
  subst hk
  rw [h.at_ x] at hl
  obtain ⟨h1, h2⟩ := of_decide_eq_true hl
  refine ⟨fun y => ?_, ?_, ?_, by have := h.le; simp; omega⟩
  · by_cases e : y = x
    · subst e
      rw [WideAt.sameKey_self (kl_key y)]
      simp
    · rw [Maps.sameKey_ne (fun e' => e (kl_inj e')), h.at_ y]
      simp [e]
  · exact (List.perm_append_singleton x ks).nodup_iff.2 (List.nodup_cons.2 ⟨h2, h.nodup⟩)
  · intro y hy
    rcases List.mem_append.1 hy with hy | hy
    · exact h.sub y hy
    · rw [List.mem_singleton.1 hy]; exact h1
theorem Left.all {L ks : List D.Nm} {left : Lit → Bool} {cnt : Nat} (h : Left L ks left cnt) (hL : L.Nodup) (h0 : ∀ l, left l = false) : ks.Perm L :=
  perm_same h.nodup hL fun x => ⟨h.sub x, fun hx => by
    have := h.at_ x
    rw [h0] at this
    have h' := of_decide_eq_false this.symm
    exact Classical.byContradiction fun hn => h' ⟨hx, hn⟩⟩

set_option maxRecDepth 100000 in
set_option maxHeartbeats 1000000 in
theorem list_some (base p b : Nat) (L : List D.Nm) (w : World) (hs : SetP base w p (some b) L) (hL : Held L) (hS : D.Srt L) :
    Calls Try.prog 25 #[.pointer (some ⟨p, 0, none⟩)] w (MadeN L w) := by
  have c0 := hs.blk.cell
  obtain ⟨D0, hown, hh, hsz⟩ := (hs.at_ b rfl).1.out
  have hblt := hown.lt
  have hSo := Lib.hid (fun (B : Option Addr) (m d : Nat) (k : List D.Nm) (W : World) (h : NOwn w.heap.size 23 W B m d k) (hm : m ≤ 1000000) => sort_any h hm)
  clear hs
  have hLl := hL.le
  have hLd := hL.nodup
  clear hL
  go_enter Try.func25, Try.ntmps25
  go_wp2_with (first
    | (at_range; refine wpList_range_own _ rfl _ 46 rfl 23 64 law_n Try.underlying46 unitElem b L.length D0 rfl hown ?_; intro w0 hrg0 hg0 hs0)
    | go_in)
  go_frame
  go_loopw [3] (fun s wr => ∃ (left : Lit → Bool) (cnt : Nat) (ks : List D.Nm) (B : Option Addr) (m d : Nat), s = .slice B m d ∧ wr.ranges Try.prog 23 unitElem b w.heap.size L.length D0 left cnt ∧
      NOwn w.heap.size 23 wr B m d ks ∧ Hid (Left L ks left cnt) ∧ Below w.heap.size w wr) (fun _ wr => wr.rangeLeft b w.heap.size)
  case atStart =>
    refine ⟨_, _, [], none, 0, 0, rfl, hrg0, NOwn.nil hg0.size, ⟨fun x => by rw [hh x]; simp, List.nodup_nil, by simp, by simp [hsz]⟩, ⟨hg0.os, hg0.tape, hg0.output, hg0.size, fun i hi => hg0.block i hi (by simp)⟩⟩
  case round =>
    obtain ⟨left, cnt, ks, B, m, d, rfl, hrg, ho, HL, hb⟩ := hrel
    have hm := ho.len
    go_wp2_with (first
      | (at_next; refine wpList_next_ranges _ rfl _ rfl 23 law_n unitElem (fun x : D.Nm => .agg (nc x)) (fun _ : Unit => .agg #[]) (fun key l hk => key_back hk) (fun v y hv => ⟨(), (unitElem_inv hv).1⟩) b w.heap.size L.length D0 left cnt rfl hrg ?_ ?_)
      | go_in)
    · intro hc0 hl0
      have HP := Lib.hid (HL.out.all hLd hl0)
      have hle := HL.out.le
      have HC := Lib.hid (hSo.out B m d ks wr ho (by omega))
      have HW := Lib.hid (fun l' (h1 : D.Srt l') (h2 : l'.Perm ks) => D.srt_one h1 hS (h2.trans HP.out))
      clear hrg hl0
      go_wp2_with (go_at_call 32; (with_reducible refine HC.out.mono ?_); rintro e w2 ⟨rfl, l', hs', hp', ho2, hg2⟩)
      go_ret
      exact ⟨B, m, d, rfl, by rw [← HW.out l' hs' hp']; exact ho2, hb.trans (grown_new ho (Nat.le_refl _) hg2)⟩
    · intro x _ l y w1 cnt1 hkey hlk _ _ hrg1 hlt hg1 hs1 hen
      have HN := Lib.hid (HL.out.next hkey hlk hlt)
      have hle := HN.out.le
      have hb1 : Below w.heap.size w w1 := hb.trans ⟨hg1.os, hg1.tape, hg1.output, hg1.size, fun i hi => hg1.block i (Nat.lt_of_lt_of_le hi hb.size) (by intro e; injection e with e; omega)⟩
      have ho1 : NOwn w.heap.size 23 w1 B m d ks := ho.kept hg1.size fun g hg => hg1.block g (ho.lt g hg).2 (by
        intro e
        injection e with e
        subst e
        exact iter_ne ho hrg hg.symm)
      have f1 := rd_new w1 _ 23 x rfl
      have hleft := hrg.left_eq
      clear hkey hlk hs1
      simp at hle
      go_wp2_with (at_builtin; refine napp _ ty_n rfl (.tmp 16) (.tmp 18) rfl rfl ((ho1.alloc _).alloc _) rfl (nrow_one (w1.alloc _) _ _ x (by simp)) (by omega) ?_; intro A1 c1 w3 ho3 hg3 hat3)
      go_roundw
      case rel =>
        have ho2 := (ho1.alloc (.cells (nc x) 23)).alloc (.cells (nc x) 23)
        refine ⟨_, _, ks ++ [x], A1, m + 1, c1, rfl, ((hrg1.alloc _).alloc _).kept hg3 (fun e => ?_) (iter_ne ho2 ((hrg1.alloc _).alloc _)), ho3, HN, ?_⟩
        · exact low_ne ho2 hblt e
        · exact ((hb1.alloc hb1.size _).alloc (by simpa using Nat.le_succ_of_le hb1.size) _).trans (grown_new ho2 (Nat.le_refl _) hg3)
      case measure =>
        have ho2 := (ho1.alloc (.cells (nc x) 23)).alloc (.cells (nc x) 23)
        have hr3 := ((hrg1.alloc _).alloc _).kept hg3 (fun e => low_ne ho2 hblt e) (iter_ne ho2 ((hrg1.alloc _).alloc _))
        rw [hr3.left_eq, hleft]
        omega
set_option maxRecDepth 100000 in
set_option maxHeartbeats 1000000 in
theorem list_none (base p : Nat) (w : World) (hs : SetP base w p none []) :
    Calls Try.prog 25 #[.pointer (some ⟨p, 0, none⟩)] w (MadeN [] w) := by
  have c0 := hs.blk.cell
  have hrn := fun w' : World => run_range_nilMap (P := Try.prog) w' 46 _ _ Try.underlying46
  have hSo := Lib.hid (sort_any (NOwn.nil (e := 23) (w := w.alloc (.mapIter none 0 #[] 0)) (base := w.heap.size) (by simp)) (by omega))
  clear hs
  go_enter Try.func25, Try.ntmps25
  go_wp2
  go_loopw [3] (fun s wr => s = .slice none 0 0 ∧ wr = w.alloc (.mapIter none 0 #[] 0)) (fun _ _ => 0)
  case atStart => exact ⟨rfl, rfl⟩
  case round =>
    obtain ⟨rfl, rfl⟩ := hrel
    have hnx := fun ty => run_next_nilMap (P := Try.prog) w ty 0 0 #[]
    clear hrn
    go_wp2_with (go_at_call 32; (with_reducible refine hSo.out.mono ?_); rintro e w2 ⟨rfl, l', hs', hp', ho2, hg2⟩)
    go_ret
    obtain rfl : l' = [] := List.perm_nil.1 hp'
    exact ⟨none, 0, 0, rfl, ho2, (below_alloc_ _ _).trans ⟨hg2.os, hg2.tape, hg2.output, hg2.size, fun i hi => hg2.block i (by simp; omega) (by intro h; cases h)⟩⟩
theorem list_any (base p : Nat) (M : Option Nat) (L : List D.Nm) (w : World) (hs : SetP base w p M L) (hL : Held L) (hS : D.Srt L) :
    Calls Try.prog 25 #[.pointer (some ⟨p, 0, none⟩)] w (MadeN L w) := by
  cases M with
  | none =>
    obtain rfl := hs.no rfl
    exact list_none base p w hs
  | some b => exact list_some base p b L w hs hL hS
end Go.Proofs.Ytgfpdfafkimkcaa
