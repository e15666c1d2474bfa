/-
  The program's Match: the first tag of a chain that is among those that are there.
-/
import Derived.Test.YtgbnaammphilhaaDoorKno
import Derived.Maps.OwnSet
import Derived.Maps.OwnIn
set_option linter.unusedVariables false
set_option linter.unusedSimpArgs false
namespace Go.Proofs.YtgbnaammphilhaaDoor
open Go.RowKit Go.Shelf
open Go.Maps (Keyed)
attribute [local go_sem] Oper.semAt_some
attribute [local go_sem ↓] Go.wp_at_zero Go.wp_at_succ ld_a ld_n st_a st_n eq_a eq_n ne_a ne_n bsl_n lv_a lv_n lp_3 lp_4
attribute [local go_sem] run_ld_a run_ld_n run_sw_a run_sw_n run_eq_a run_eq_n run_ne_a run_ne_n run_bsl1_n run_lv_a run_lv_n st_z ne_z eq_z rd_new rd_old rd_drew rd_drewN rd_set tn_new tn_old tn_drew tn_drewN setRow_alloc run_lp_3 run_lp_4

/-- What a tag reads as, as a key. -/
noncomputable def kl (x : D.Tg) : Lit := Classical.choose (key_of x 29 (.inr rfl))
theorem kl_is (x : D.Tg) : keyOf Tryd.prog 29 (.agg (nc x)) = some (kl x) := Classical.choose_spec (key_of x 29 (.inr rfl))
theorem kl_inj {x y : D.Tg} (h : kl x = kl y) : x = y := by
  have h1 := kl_is x
  rw [h] at h1
  exact nc_inj (Value.agg.inj (law_n.inj h1 (kl_is y)))
theorem kl_key (x : D.Tg) : WideAt.IsKeyLit (kl x) := law_n.key (kl_is x)
/-- A map that holds just these. -/
structure MapIn (w : World) (b : Nat) (L : List D.Tg) : Prop where
  out : ∃ D : DataW Unit, w.ownsMap Tryd.prog 29 unitElem b L.length D ∧ ∀ x, Maps.has D (kl x) = decide (x ∈ L)
section
variable {w w' : World} {b n : Nat} {L : List D.Tg}
theorem MapIn.lt (h : MapIn w b L) : b < w.heap.size := by
  obtain ⟨D, ho, _⟩ := h.out
  exact ho.lt
theorem MapIn.to (h : MapIn w b L) (hs : w'.heap[b]? = w.heap[b]?) : MapIn w' b L := by
  obtain ⟨D, ⟨es, clock, hb, r⟩, r'⟩ := h.out
  exact ⟨D, ⟨es, clock, hs.trans hb, r⟩, r'⟩
theorem MapIn.alloc (h : MapIn w b L) (o : Obj) : MapIn (w.alloc o) b L := h.to ((below_alloc_ _ _).block _ h.lt)
theorem min_new (w : World) : MapIn (w.alloc (.map #[] 0)) w.heap.size [] := ⟨_, World.ownsMap_made _ _ _ _, fun x => rfl⟩
theorem MapIn.look (h : MapIn w b L) (x : D.Tg) : (Instr.lookup 70 (.map (some b)) (.agg (nc x)) true).run Tryd.prog w = .ok (.tuple #[.agg #[], .bool (decide (x ∈ L))]) w := by
  obtain ⟨D, ho, hh⟩ := h.out
  obtain ⟨v, ps, hr, hv⟩ := ho.look_ok law_n Tryd.underlying70 (z := .agg #[]) (by kernel_rfl) unitElem_mk (kl_is x)
  obtain ⟨rfl, _⟩ := unitElem_inv hv
  rw [hr, hh x]
theorem MapIn.put (h : MapIn w b L) (hL : L.length ≤ 1000) (x : D.Tg) :
    ∃ w', (Instr.mapUpdate 70 (.map (some b)) (.agg (nc x)) (.agg #[])).run Tryd.prog w = .ok () w' ∧ MapIn w' b (L ++ [x]) ∧ w.grownBy w' (some b) := by
  obtain ⟨D, ho, hh⟩ := h.out
  obtain ⟨w', hr, ho', hg⟩ := ho.update law_n Tryd.underlying70 (by simp only [maxLen]; omega) (kl_is x) (unitElem_mk (H := Unit))
  refine ⟨w', hr, ⟨_, by rw [List.length_append]; exact ho', fun y => ?_⟩, hg⟩
  by_cases e : y = x
  · subst e
    rw [Maps.has_put_same ho.isMap (kl_key y)]
    simp
  · rw [Maps.has_put_other (fun e' => e (kl_inj e')), hh y, decide_eq_decide]
    simp [e]
end
/-- What stands while Match goes on: the map, its variable, the results' cells. -/
structure Stm (w0 : World) (s : Nat) (L : List D.Tg) (W : World) : Prop where
  mp : MapIn W (s + 3) L
  cell : Blk W (s + 4) 70 #[.map (some (s + 3))]
  res : tn W (s + 1) = true
  ok : Blk W (s + 2) 4 #[.bool false]
  bel : Below s w0 W
  sz : s + 5 ≤ W.heap.size
theorem Stm.to {w0 W W' : World} {s : Nat} {L : List D.Tg} (h : Stm w0 s L W) (hb : Below (s + 5) W W') : Stm w0 s L W' :=
  have k := fun i (hi : i < s + 5) => hb.block i hi
  ⟨h.mp.to (k _ (by omega)), ⟨(k _ (by omega)).trans h.cell.out⟩, (tn_to (k _ (by omega))).trans h.res, ⟨(k _ (by omega)).trans h.ok.out⟩, h.bel.trans (hb.mono (by omega)), Nat.le_trans h.sz hb.size⟩
theorem Stm.alloc {w0 W : World} {s : Nat} {L : List D.Tg} (h : Stm w0 s L W) (o : Obj) : Stm w0 s L (W.alloc o) := h.to ((Below.refl _ _).alloc h.sz o)
theorem Stm.put {w0 W W' : World} {s : Nat} {L L' : List D.Tg} (h : Stm w0 s L W) (hg : W.grownBy W' (some (s + 3))) (hm : MapIn W' (s + 3) L') : Stm w0 s L' W' :=
  have hk := fun i (hi : i < s + 5) (hne : i ≠ s + 3) => hg.block i (Nat.lt_of_lt_of_le hi h.sz) (fun e => hne (by have := Option.some.inj e; omega))
  ⟨hm, ⟨(hk _ (by omega) (by omega)).trans h.cell.out⟩, (tn_to (hk _ (by omega) (by omega))).trans h.res, ⟨(hk _ (by omega) (by omega)).trans h.ok.out⟩,
    h.bel.grown hg (by have := h.sz; omega) (fun k e => by have := Option.some.inj e; omega), Nat.le_trans h.sz hg.size⟩
theorem stm_from {w0 : World} {s D0 : Nat} {L : List D.Tg} (hD : s + 5 ≤ D0) {p : List D.Tg → Prop} : OwnFrom D0 (fun (pre : List D.Tg) W => Stm w0 s L W ∧ p pre) := by
  rintro pre W W' row ⟨hS, hp⟩ hg hr
  exact ⟨hS.to ((Below.refl _ _).grown hg hS.sz (fun k e => by have := (hr k e).1; omega)), hp⟩
/-- What stands once a tag was found. -/
structure Fnd (w0 : World) (s : Nat) (y : D.Tg) (W : World) : Prop where
  res : rd W ⟨s + 1, 0, none⟩ = some y
  ok : Blk W (s + 2) 4 #[.bool true]
  bel : Below s w0 W
  sz : s + 5 ≤ W.heap.size
theorem Fnd.to {w0 W W' : World} {s : Nat} {y : D.Tg} (h : Fnd w0 s y W) (hb : Below (s + 5) W W') : Fnd w0 s y W' :=
  have k := fun i (hi : i < s + 5) => hb.block i hi
  ⟨(rd_to (k _ (by show s + 1 < s + 5; omega))).trans h.res, ⟨(k _ (by omega)).trans h.ok.out⟩, h.bel.trans (hb.mono (by omega)), Nat.le_trans h.sz hb.size⟩
theorem fnd_from {w0 : World} {s D0 : Nat} (hD : s + 5 ≤ D0) {p : List D.Tg → D.Tg → Prop} : OwnFrom D0 (fun (pre : List D.Tg) W => ∃ y, Fnd w0 s y W ∧ p pre y) := by
  rintro pre W W' row ⟨y, hS, hp⟩ hg hr
  exact ⟨y, hS.to ((Below.refl _ _).grown hg hS.sz (fun k e => by have := (hr k e).1; omega)), hp⟩
theorem kf_setRow {B g : Nat} (w : World) (cs : Array Value) (h : g < B) : KeepsFrom B w (w.setRow g cs) :=
  ⟨by simp [World.setRow], fun k o hB hk ho => (heap_setRow w g k cs (by omega)).trans hk⟩
theorem find_hit {c pre l : List D.Tg} {y : D.Tg} (hp : (pre ++ [y]) <+: c) (hn : ∀ z ∈ pre, z ∉ l) (hy : y ∈ l) : D.find c l = some y := by
  obtain ⟨r, hr⟩ := hp
  unfold D.find
  rw [← hr, List.append_assoc, List.find?_append, List.find?_eq_none.2 (fun z hz => by simpa using hn z hz)]
  simp [hy]
theorem find_miss {c l : List D.Tg} (hn : ∀ z ∈ c, z ∉ l) : D.find c l = none := List.find?_eq_none.2 (fun z hz => by simpa using hn z hz)
theorem lv_bool {W : World} {g : Nat} {b : Bool} (h : Blk W g 4 #[.bool b]) : (loadVar 4 ⟨g, 0, none⟩).run Tryd.prog W = .ok (.bool b) W := by
  have hc := h.cell
  simp [loadVar, go_sem, hc]
theorem res_match (W : World) (T : Array Value) (s : Nat) (y : D.Tg) (b : Bool) (h4 : T.getD 4 undef = .pointer (some ⟨s + 1, 0, none⟩)) (h5 : T.getD 5 undef = .pointer (some ⟨s + 2, 0, none⟩))
    (hr : rd W ⟨s + 1, 0, none⟩ = some y) (hb : Blk W (s + 2) 4 #[.bool b]) : (results Tryd.f22 T).run Tryd.prog W = .ok (.tuple #[.agg (nc y), .bool b]) W := by
  have h1 := lv_of hr
  have h2 := lv_bool hb
  rw [Array.getD_eq_getD_getElem?] at h4 h5
  simp only [results, Tryd.results22]
  simp [Sem.run_bind, Result.andThen, h4, h5, asAddr, h1, h2]
set_option maxRecDepth 100000 in
set_option maxHeartbeats 8000000 in
theorem match_any (x : D.Tg) (A : Option Addr) (n c : Nat) (L : List D.Tg) (w : World) (hr : NRow w A n L) (hc : n ≤ c) (hn : n ≤ 100) :
    Calls Tryd.prog 22 #[.agg (nc x), .slice A n c] w fun e w' => e = .returned (.tuple #[.agg (nc ((D.find (D.cht x) L).getD D.zero)), .bool (D.find (D.cht x) L).isSome]) ∧ Below w.heap.size w w' := by
  refine (callsIn_wide (n := 10)).1 ?_
  have hmm := @run_makeMap Tryd.prog
  have hlen := hr.len
  refine callsIn_of_wp_marks Tryd.func22 rfl trivial ?_ rfl
  simp only [Tryd.ntmps22, List.size_toArray, List.length_cons, List.length_nil, Nat.reduceAdd, Nat.reduceSub, Array.replicate_succ, Array.replicate_zero, List.push_toArray, List.append_toArray, List.nil_append, List.cons_append]
  obtain ⟨w5, hw5⟩ : ∃ w5, (((((w.alloc (.cells (nc x) 29)).alloc (.cells z10 29)).alloc (.cells #[.bool false] 4)).alloc (.map #[] 0)).alloc (.cells #[.map (some (w.heap.size + 3))] 70)) = w5 := ⟨_, rfl⟩
  have S0 : Stm w w.heap.size [] w5 := by
    rw [← hw5]
    refine ⟨?_, ?_, ?_, ?_, ((((((Below.refl _ _).alloc (Nat.le_refl _) _).alloc (by first | (simp; done) | (simp; omega)) _).alloc (by first | (simp; done) | (simp; omega)) _).alloc (by first | (simp; done) | (simp; omega)) _).alloc (by first | (simp; done) | (simp; omega)) _), by simp⟩
    · have := min_new (((w.alloc (.cells (nc x) 29)).alloc (.cells z10 29)).alloc (.cells #[.bool false] 4))
      simp only [World.size_alloc] at this
      exact this.alloc _
    · have := Blk.new ((((w.alloc (.cells (nc x) 29)).alloc (.cells z10 29)).alloc (.cells #[.bool false] 4)).alloc (.map #[] 0)) 70 #[.map (some (w.heap.size + 3))]
      simp only [World.size_alloc] at this
      exact this
    · have := tn_new (w.alloc (.cells (nc x) 29)) (w.heap.size + 1) 29 z10 (by first | (simp; done) | (simp; omega))
      rw [tn_old _ _ _ (by first | (simp; done) | (simp; omega)), tn_old _ _ _ (by first | (simp; done) | (simp; omega)), tn_old _ _ _ (by first | (simp; done) | (simp; omega)), this]
      rfl
    · have := Blk.new ((w.alloc (.cells (nc x) 29)).alloc (.cells z10 29)) 4 #[.bool false]
      simp only [World.size_alloc] at this
      exact (this.alloc _).alloc _
  have f5 : rd w5 ⟨w.heap.size, 0, none⟩ = some x := by
    rw [← hw5]
    exact rd_on (rd_new w _ 29 x rfl) ((((((Below.refl _ _).alloc (by first | (simp; done) | (simp; omega)) _).alloc (by first | (simp; done) | (simp; omega)) _).alloc (by first | (simp; done) | (simp; omega)) _).alloc (by first | (simp; done) | (simp; omega)) _))
  gi_wp2
  clear hw5 hmm
  simp only [Nat.add_assoc, Nat.reduceAdd]
  gi_loopw [15] (fun i wr => ∃ k : Nat, k ≤ n ∧ i = .int .i64 k ∧ Stm w w.heap.size (L.take k) wr ∧ rd wr ⟨w.heap.size, 0, none⟩ = some x ∧ Below w.heap.size w wr) (fun i _ => n - (intOf i).toNat)
  case atStart => exact ⟨0, Nat.zero_le _, rfl, S0, f5, S0.bel⟩
  case round =>
    clear S0 f5
    obtain ⟨k, hk, rfl, hS, hx0, hbel⟩ := hrel
    by_cases hlt : k < n
    · obtain ⟨y, hy⟩ := nat_lt (l := L) (i := k) (by omega)
      obtain ⟨ad, rfl, hadl, hry⟩ := (hr.on hbel).rd hy
      have i1 : (k : Int) < (n : Int) := by omega
      have i0 : (0 : Int) ≤ (k : Int) := by omega
      have hsz := hS.sz
      have S1 := hS.alloc (.cells (nc y) 29)
      have c1 := S1.cell.cell
      have fy := rd_new wr _ 29 y rfl
      obtain ⟨w2, hput, hm2, hg2⟩ := S1.mp.put (by rw [List.length_take]; omega) y
      have S2 := S1.put hg2 hm2
      have hx2 : rd w2 ⟨w.heap.size, 0, none⟩ = some x := by
        have h1 : w2.heap[w.heap.size]? = (wr.alloc (.cells (nc y) 29)).heap[w.heap.size]? := hg2.block _ (by have := S1.sz; omega) (fun e => by have := Option.some.inj e; omega)
        rw [rd_to h1, rd_old _ _ _ (by show w.heap.size < _; omega)]
        exact hx0
      have ht : L.take (k + 1) = L.take k ++ [y] := by rw [List.take_add_one, hy]; rfl
      clear hS S1 hm2 hg2
      gi_wp2
      go_roundw
      case rel => exact ⟨k + 1, by omega, by go_num, by rw [ht]; exact S2, hx2, S2.bel⟩
      case measure => simp [intOf]; omega
    · obtain rfl : k = n := by omega
      have i1 : ¬ ((k : Int) < (k : Int)) := by omega
      have ht : L.take k = L := List.take_of_length_le (by omega)
      rw [ht] at hS
      clear ht
      gi_wp2
      refine ⟨trivial, (callsIn_wide.2 (upwards_any x _)).mono ?_⟩
      rintro e w3 ⟨rfl, rfl⟩
      gi_wp2
      have hx2 : rd (wr.alloc (.cells (nc x) 29)) ⟨wr.heap.size, 0, none⟩ = some x := rd_new _ _ _ x rfl
      have S3 := hS.alloc (.cells (nc x) 29)
      have hwsz := hS.sz
      obtain ⟨w3, hw3⟩ : ∃ w3, wr.alloc (.cells (nc x) 29) = w3 := ⟨_, rfl⟩
      have hz3 : w3.heap.size = wr.heap.size + 1 := by rw [← hw3]; simp
      rw [hw3] at hx2 S3
      try rw [hw3]
      clear hw3 hS hx0 hbel
      refine wpIn_rangeFunc_ownH rfl (by decide) (gf := 54) (lb := #[.pointer (some ⟨wr.heap.size, 0, none⟩)]) rfl trivial (enters_of Tryd.func54 (by kernel_rfl) rfl)
        (upw_stops 9 (by decide) wr.heap.size x w3 hx2) (fun h k => kpT_t h k) kpT_b (Below.refl _ _) (fun _ => rfl)
        (fun pre W => Stm w w.heap.size L W ∧ (∀ z ∈ pre, z ∉ L))
        (fun c pre W => c = .ret ∧ ∃ y, Fnd w w.heap.size y W ∧ ∃ p0, pre = p0 ++ [y] ∧ (∀ z ∈ p0, z ∉ L) ∧ y ∈ L)
        (stm_from (by omega)) ?ix ⟨S3, by simp⟩
        (fun y a' W => ∃ gb, Blk W gb 29 (nc y) ∧ ∃ v0 v1 v2 v3 v7 v8 v10 v11 v12 v13 v14 v15 v16 v17 v18 v19 v20 v21 v22 v23 v24 v25 v26 v27 v28 v29 v30 v31 v32 v33 v34 : Value, a' = { tmps := #[v0, v1, v2, v3, .pointer (some ⟨w.heap.size + 1, 0, none⟩), .pointer (some ⟨w.heap.size + 2, 0, none⟩), .pointer (some ⟨w.heap.size + 4, 0, none⟩), v7, v8, .pointer (some ⟨gb, 0, none⟩), v10, v11, v12, v13, v14, v15, v16, v17, v18, v19, v20, v21, v22, v23, v24, v25, v26, v27, v28, v29, v30, v31, v32, v33, v34], defers := [] })
        (fun y a' s W W' row ⟨gb, hs⟩ hg hr => ⟨gb, blk_from s W W' row hs hg hr⟩) ?assign ?body ?done ?stop
      case ix =>
        rintro c' pre W W' row ⟨hc', y, hF, hp⟩ hg hr
        exact ⟨hc', y, hF.to ((Below.refl _ _).grown hg hF.sz (fun k e => by have := (hr k e).1; omega)), hp⟩
      case assign =>
        rintro l pre y W K ⟨hS, hpre⟩ hK
        gi_wp2
        exact hK _ _ ((KeepsOthers.alloc _ _).from _) (kpT_below (below_alloc_ _ _)) ⟨hS.alloc _, hpre⟩ ⟨W.heap.size, Blk.new _ _ _, _, _, _, _, _, _, _, _, _, _, _, _, _, _, _, _, _, _, _, _, _, _, _, _, _, _, _, _, _, _, _, rfl⟩
      case body =>
        rintro l pre y a' W hl ⟨r, hr'⟩ ⟨hS, hpre⟩ ⟨gb, hBy, v0, v1, v2, v3, v7, v8, v10, v11, v12, v13, v14, v15, v16, v17, v18, v19, v20, v21, v22, v23, v24, v25, v26, v27, v28, v29, v30, v31, v32, v33, v34, rfl⟩ hlt
        have hcell := hS.cell.cell
        have hfree := hS.cell.free
        have fy := rd_blk hBy
        have hgb := hBy.lt
        have hlook := hS.mp.look y
        have hsz := hS.sz
        have hres := hS.res
        have hs1 : w.heap.size + 1 < W.heap.size := by omega
        by_cases hyl : y ∈ L
        · rw [decide_eq_true hyl] at hlook
          have B2 : Blk ((W.alloc (.cells #[] 71)).setRow (w.heap.size + 1) (nc y)) (w.heap.size + 2) 4 #[.bool false] := ⟨(heap_setRow _ _ _ _ (by omega)).trans ((Below.heap_alloc W _ _ (by omega)).trans hS.ok.out)⟩
          have hc2 := B2.cell
          have hf2 := B2.free
          gi_wp2
          have T1 : tn (W.alloc (.cells #[] 71)) (w.heap.size + 1) = true := by rw [tn_old _ _ _ hs1]; exact hres
          refine ⟨((((KeepsOthers.alloc W _).from _).trans (kf_setRow _ _ (by omega))).trans ((KeepsOthers.setCell _ _ _).from _)), rfl, y, ⟨?_, B2.set_ _, ?_, ?_⟩, pre, rfl, hpre, hyl⟩
          · rw [rd_setCell _ _ _ _ (by show w.heap.size + 1 ≠ w.heap.size + 2; omega)]
            exact rd_set _ _ _ T1
          · exact (below_setRow (hS.bel.alloc (by omega) _) (by omega) _).setCell (by simp) _
          · simp [World.setCell, World.setRow]; omega
        · rw [decide_eq_false hyl] at hlook
          gi_wp2
          refine ⟨((KeepsOthers.alloc W _).from _), kpT_below (below_alloc_ W _), hS.alloc _, ?_⟩
          intro z hz
          rcases List.mem_append.1 hz with hz | hz
          · exact hpre z hz
          · rw [List.mem_singleton.1 hz]; exact hyl
      case done =>
        rintro D0 ys W hD rfl ⟨hS, hpre⟩ hK
        have hres := hS.res
        have hsz := hS.sz
        have B2 : Blk (W.setRow (w.heap.size + 1) (nc D.zero)) (w.heap.size + 2) 4 #[.bool false] := ⟨(heap_setRow _ _ _ _ (by omega)).trans hS.ok.out⟩
        have hc2 := B2.cell
        have hf2 := B2.free
        gi_wp2
        have hres2 : rd ((W.setRow (w.heap.size + 1) (nc D.zero)).setCell ⟨w.heap.size + 2, 0, none⟩ (.bool false)) ⟨w.heap.size + 1, 0, none⟩ = some D.zero := by
          rw [rd_setCell _ _ _ _ (by show w.heap.size + 1 ≠ w.heap.size + 2; omega)]
          exact rd_set _ _ _ hres
        have hok2 := B2.set_ (.bool false)
        have hK2 : ((W.setRow (w.heap.size + 1) (nc D.zero)).setCell ⟨w.heap.size + 2, 0, none⟩ (.bool false)).heap[D0]? = some (.deferred (some [])) := by
          rw [Below.heap_setCell _ _ _ _ (by show D0 ≠ w.heap.size + 2; omega), heap_setRow _ _ _ _ (by omega)]
          exact hK
        have hb2 : Below w.heap.size w ((W.setRow (w.heap.size + 1) (nc D.zero)).setCell ⟨w.heap.size + 2, 0, none⟩ (.bool false)) := (below_setRow hS.bel (by omega) _).setCell (by simp) _
        obtain ⟨W2, hW2⟩ : ∃ W2, (W.setRow (w.heap.size + 1) (nc D.zero)).setCell ⟨w.heap.size + 2, 0, none⟩ (.bool false) = W2 := ⟨_, rfl⟩
        rw [hW2] at hres2 hok2 hK2 hb2 ⊢
        clear hW2 B2 hc2 hf2 hK
        refine ⟨by simp, .inl ⟨_, _, rfl, run_takeDeferred hK2, ?_⟩⟩
        have ho1 : ∀ k, k ≠ D0 → (W2.putObj D0 (.deferred none)).heap[k]? = W2.heap[k]? := fun k hk => World.putObj_heap_other hk
        refine ⟨_, res_match _ _ w.heap.size D.zero false rfl rfl ((rd_to (ho1 _ (by show w.heap.size + 1 ≠ D0; omega))).trans hres2) ⟨(ho1 _ (by omega)).trans hok2.out⟩, ?_, ?_⟩
        · rw [find_miss hpre]; rfl
        · exact hb2.trans (belowK_b (w := w) (Nat.le_refl _) W2 D0 _ _ (by omega) hK2 rfl rfl)
      case stop =>
        rintro D0 c' pre W hD hpp ⟨rfl, y, hF, p0, rfl, hp0, hyl⟩ hK
        have hfind := find_hit hpp hp0 hyl
        gi_wp2
        refine ⟨by simp, .inl ⟨_, _, rfl, run_takeDeferred hK, ?_⟩⟩
        have ho1 : ∀ k, k ≠ D0 → (W.putObj D0 (.deferred none)).heap[k]? = W.heap[k]? := fun k hk => World.putObj_heap_other hk
        refine ⟨_, res_match _ _ w.heap.size y true rfl rfl ((rd_to (ho1 _ (by show w.heap.size + 1 ≠ D0; omega))).trans hF.res) ⟨(ho1 _ (by omega)).trans hF.ok.out⟩, ?_, ?_⟩
        · rw [hfind]; rfl
        · exact hF.bel.trans (belowK_b (w := w) (Nat.le_refl _) W D0 _ _ (by omega) hK rfl rfl)
end Go.Proofs.YtgbnaammphilhaaDoor
