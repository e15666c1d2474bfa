/-
  The program: the pairs of lists that stand in the cases of parts that are the same.
  Pairs of first parts as keys of a map: looked up, stored.
  Pairs of lists that are to be held against each other: what they are, where they begin, what stands in their cases.
-/
import Derived.Test.YtohhfcfnclafdaaGreatDoorG35
import Derived.Test.YtohhfcfnclafdaaGreatDoorGow
import Derived.LaidEql
import Derived.Maps.Own
set_option linter.unusedVariables false
set_option linter.unusedSimpArgs false
set_option maxRecDepth 100000
namespace Go.Proofs.YtohhfcfnclafdaaGreatDoor
open Go.RowKit
attribute [local go_sem ↓] Go.wp_at_zero Go.wp_at_succ ld_nd lv_nd st_nd bd_nd bs_nd
attribute [local go_sem] run_lvnd run_ldnd run_stnd_new run_bsnd run_bdnd_1 run_bdnd_5 run_bdnd_0 Shp.rd_new Shp.rd_old Shp.rd_drew Shp.rd_drewN

/-- A pair of lists, as it lies. -/
abbrev Pv := Value × Value
def pcs : List Pv → List Value
  | [] => []
  | p :: l => p.1 :: p.2 :: pcs l
theorem pcs_app : ∀ (l k : List Pv), pcs (l ++ k) = pcs l ++ pcs k
  | [], k => rfl
  | p :: l, k => by simp [pcs, pcs_app l k]
theorem pcs_len : ∀ (l : List Pv), (pcs l).length = l.length * 2
  | [] => rfl
  | p :: l => by simp [pcs, pcs_len l]; omega
/-- A slice. -/
def Isl (v : Value) : Prop := ∃ (A : Option Addr) (n c : Nat), v = .slice A n c
theorem pair_under : Tryz.prog.underlying 112 = some (.slice 111) := by kernel_rfl
theorem pair_info : (Tryz.prog.info? 111).map (fun i => (i.zero, i.size, i.bytes)) = some (some (.agg #[.slice none 0 0, .slice none 0 0]), 2, 48) := by kernel_rfl
theorem rw_pair (w : World) (g : Nat) (hg : g = w.heap.size) (T : TypeId) (u v : Value) : Rw 2 (w.alloc (.cells #[u, v] T)) (some ⟨g, 0, none⟩) 1 (pcs [(u, v)]) := by
  subst hg
  exact rw_new w 2 T 1 #[u, v] rfl
/-- A block of another type is another one. -/
theorem Ow.neb {T T' : TypeId} {sz base : Nat} {w : World} {A : Option Addr} {n c g : Nat} {xs : List Value} {cs : Array Value} (h : Ow T sz base w A n c xs) (hg : Blk w g T' cs) (hne : T ≠ T') : (Value.slice A n c).ownBlock ≠ some g := by
  intro h1
  rcases h.row.2 with ⟨e1, _⟩ | ⟨g', cap, cur, e1, _, hh, _⟩
  · rw [e1] at h1; simp [Value.ownBlock] at h1
  · rw [e1] at h1
    have a1 : g' = g := by simpa [Value.ownBlock] using h1
    subst a1
    rw [hg.out] at hh
    injection hh with hh
    injection hh with _ ht
    exact hne ht.symm
theorem Ow.base_ {T : TypeId} {sz base base' : Nat} {w : World} {A : Option Addr} {n c : Nat} {xs : List Value} (h : Ow T sz base w A n c xs) (hb : base' ≤ base) : Ow T sz base' w A n c xs := by
  refine ⟨⟨h.row.1, ?_⟩, Nat.le_trans hb h.base⟩
  rcases h.row.2 with hn | ⟨g, cap, cur, e, hg, hh, r⟩
  · exact .inl hn
  · exact .inr ⟨g, cap, cur, e, Nat.le_trans hb hg, hh, r⟩
/-- The pairs of so many cases of a part. -/
def kpv (cs us : List (List Nat × Value)) : List Pv := (cs.map (·.2)).zip (us.map (·.2))
theorem kpv_take {cs us : List (List Nat × Value)} {i : Nat} {t t' : List Nat} {u v : Value} (h : cs[i]? = some (t, u)) (h' : us[i]? = some (t', v)) : (kpv cs us).take (i + 1) = (kpv cs us).take i ++ [(u, v)] := by
  have e : (kpv cs us)[i]? = some (u, v) := by
    unfold kpv
    rw [List.getElem?_zip_eq_some]
    simp [h, h']
  rw [List.take_add_one, e]
  rfl
/-- The cases of two lists, part by part. -/
def kpvs : List (List (List Nat × Value)) → List (List (List Nat × Value)) → List Pv
  | c :: a, u :: b => kpv c u ++ kpvs a b
  | [], _ => []
  | _ :: _, [] => []
theorem kpvs_le : ∀ (a b : List (List (List Nat × Value))) (j : Nat), (kpvs (a.take j) (b.take j)).length ≤ (kpvs a b).length
  | [], b, j => by simp [kpvs]
  | x :: a, [], j => by cases j <;> simp [kpvs]
  | x :: a, y :: b, 0 => by simp [kpvs]
  | x :: a, y :: b, j + 1 => by
    have := kpvs_le a b j
    simp only [List.take_succ_cons, kpvs, List.length_append]
    omega
theorem kpvs_take : ∀ {a b : List (List (List Nat × Value))} {j : Nat} {c u : List (List Nat × Value)}, a[j]? = some c → b[j]? = some u → kpvs (a.take (j + 1)) (b.take (j + 1)) = kpvs (a.take j) (b.take j) ++ kpv c u
  | [], b, j, c, u, h, _ => by simp at h
  | x :: a, [], j, c, u, _, h => by simp at h
  | x :: a, y :: b, 0, c, u, h, h' => by
    simp at h h'
    subst h h'
    simp [kpvs]
  | x :: a, y :: b, j + 1, c, u, h, h' => by
    simp only [List.take_succ_cons, kpvs]
    rw [kpvs_take (by simpa using h) (by simpa using h'), List.append_assoc]

set_option maxHeartbeats 16000000 in
/-- The pairs in the cases: for parts of as many cases each. -/
theorem within_row (A B : Option Addr) (n c d : Nat) (vs us : List D.Nv) (ca cb : List (List (List Nat × Value))) (w : World) (hr : Rw 15 w A n (nS.rcs vs)) (hs : Rw 15 w B n (nS.rcs us)) (hca : ca.length = n) (hcb : cb.length = n) (hT : (kpvs ca cb).length ≤ 1000) (hn : n ≤ 1000)
    (hx : ∀ (j : Nat) (y y' : D.Nv) (a b : List (List Nat × Value)), vs[j]? = some y → us[j]? = some y' → ca[j]? = some a → cb[j]? = some b → Rw 2 w y.A y.m (ccs a) ∧ Rw 2 w y'.A y'.m (ccs b) ∧ y.m = y'.m ∧ (∀ x ∈ a, Isl x.2) ∧ (∀ x ∈ b, Isl x.2)) :
    Calls Tryz.prog 47 #[.agg #[.slice A n c, .slice B n d]] w fun e w' => ∃ (A' : Option Addr) (c' : Nat), e = .returned (.slice A' (kpvs ca cb).length c') ∧ Ow 111 2 w.heap.size w' A' (kpvs ca cb).length c' (pcs (kpvs ca cb)) ∧ Below w.heap.size w w' := by
  have hlen := hr.len
  rw [Shp.rcs_len, show nS.n = 15 from rfl] at hlen
  have hlen : vs.length = n := by omega
  have hlen2 := hs.len
  rw [Shp.rcs_len, show nS.n = 15 from rfl] at hlen2
  have hlen2 : us.length = n := by omega
  have HR := Lib.hid hr
  have HS := Lib.hid hs
  have HX := Lib.hid hx
  clear hr hs hx
  go_enter Tryz.func47, Tryz.ntmps47
  go_wp2_with fail
  go_loopw [3, 11] (fun s3 s11 wr => ∃ (j : Nat) (A' : Option Addr) (n' c' : Nat), j ≤ n ∧ s11 = .int .i64 j ∧ s3 = .slice A' n' c' ∧ n' = (kpvs (ca.take j) (cb.take j)).length ∧ Hid (Ow 111 2 (w.heap.size + 1) wr A' n' c' (pcs (kpvs (ca.take j) (cb.take j)))) ∧ Hid (Below (w.heap.size + 1) (w.alloc (.cells #[.slice A n c, .slice B n d] 111)) wr)) (fun _ s11 _ => n - (intOf s11).toNat)
  case atStart => exact ⟨0, none, 0, 0, Nat.zero_le _, rfl, rfl, by simp [kpvs], Lib.hid (by simpa [kpvs, pcs] using Ow.nil _ 2 (by simp)), Lib.hid (Below.refl _ _)⟩
  case round =>
    obtain ⟨j, A', n', c', hj, rfl, rfl, hn', HC, HZ⟩ := hrel
    obtain ⟨wo, rfl⟩ : ∃ wo : World, wo = wr := ⟨_, rfl⟩
    by_cases hlt : j < n
    · obtain ⟨Y, hY⟩ : ∃ a, vs[j]? = some a := ⟨_, List.getElem?_eq_getElem (by omega)⟩
      obtain ⟨Y', hY'⟩ : ∃ a, us[j]? = some a := ⟨_, List.getElem?_eq_getElem (by omega)⟩
      obtain ⟨a, ha⟩ : ∃ a, ca[j]? = some a := ⟨_, List.getElem?_eq_getElem (by omega)⟩
      obtain ⟨b, hb⟩ : ∃ a, cb[j]? = some a := ⟨_, List.getElem?_eq_getElem (by omega)⟩
      obtain ⟨hra, hrb, hm, hsa, hsb⟩ := HX.out j Y Y' a b hY hY' ha hb
      have b1 : Below w.heap.size w wo := (below_alloc_ w _).trans (HZ.out.mono (by simp))
      obtain ⟨ad, rfl, hbk, hrd, _⟩ := rw_at (HR.out.on b1) hY
      have hlt1 : w.heap.size < wo.heap.size := by have := HZ.out.size; simp at this; omega
      have c14 := (nf_blk (Blk.new wo 116 (nS.v Y))).c
      simp only [Nat.zero_add] at c14
      obtain ⟨p1, hp1⟩ : ∃ w1, wo.alloc (.cells (nS.v Y) 116) = w1 := ⟨_, rfl⟩
      have q0 : wo.cell? ⟨w.heap.size, 0, none⟩ = some (.slice (some ad) n c) := cell_kept_ (HZ.out.mono (by simp)) ((Blk.new w 111 #[.slice (some ad) n c, .slice B n d]).c_ 0)
      have hIj : (j : Int) < n := by omega
      have HKT := Kept.mk (kpvs_take ha hb)
      have HRA := Lib.hid hra
      have HRB := Lib.hid hrb
      have HSA := Lib.hid hsa
      have HSB := Lib.hid hsb
      have HYB := Kept.mk hY'
      have hla : a.length = Y.m := by have := hra.len; rw [ccs_len] at this; omega
      have hlb : b.length = Y.m := by have := hrb.len; rw [ccs_len] at this; omega
      have HB1 := Lib.hid b1
      have HM := Kept.mk hm
      obtain ⟨M, hM⟩ : ∃ M, Y.m = M := ⟨_, rfl⟩
      have hM' : Y'.m = M := by rw [← hm]; exact hM
      have HT1 : (kpvs (ca.take j) (cb.take j)).length + (kpv a b).length ≤ 1000 := by
        have h1 := kpvs_le ca cb (j + 1)
        rw [HKT.out, List.length_append] at h1
        omega
      rw [hM] at hla hlb c14
      have hM3 : M ≤ 1000 := by have : (kpv a b).length = M := by unfold kpv; simp; omega
                                omega
      have HM1 := Kept.mk hM
      have HM2 := Kept.mk hM'
      have HN1 := Kept.mk hn'
      clear hra hrb hsa hsb ha hb hY hY' hp1 b1 hm hM hM' hn'
      go_wp2_with fail
      go_loopw [3, 19] (fun s3 s19 wr => ∃ (q : Nat) (A'' : Option Addr) (n'' c'' : Nat), q ≤ M ∧ s19 = .int .i64 q ∧ s3 = .slice A'' n'' c'' ∧ n'' = (kpvs (ca.take j) (cb.take j)).length + ((kpv a b).take q).length ∧ Hid (Ow 111 2 (w.heap.size + 1) wr A'' n'' c'' (pcs (kpvs (ca.take j) (cb.take j) ++ (kpv a b).take q))) ∧ Hid (Below (w.heap.size + 1) wo wr)) (fun _ s19 _ => M - (intOf s19).toNat)
      case atStart => exact ⟨0, A', n', c', Nat.zero_le _, rfl, rfl, by simp [HN1.out], Lib.hid (by simpa using HC.out.alloc _), Lib.hid ((below_alloc_ _ _).mono hlt1)⟩
      case round =>
        obtain ⟨q, A'', n'', c'', hq, rfl, rfl, hn'', HC, HY⟩ := hrel
        have HNN := Kept.mk hn''
        clear hn''
        obtain ⟨wi, rfl⟩ : ∃ wi : World, wi = wr := ⟨_, rfl⟩
        have bi : Below w.heap.size w wi := HB1.out.trans (HY.out.mono (by omega))
        by_cases hlq : q < M
        · obtain ⟨⟨t, u⟩, ea⟩ : ∃ x, a[q]? = some x := ⟨_, List.getElem?_eq_getElem (by omega)⟩
          obtain ⟨⟨t', v⟩, eb⟩ : ∃ x, b[q]? = some x := ⟨_, List.getElem?_eq_getElem (by omega)⟩
          obtain ⟨x1, x2, x3, rfl⟩ : Isl u := HSA.out _ (List.mem_of_getElem? ea)
          obtain ⟨y1, y2, y3, rfl⟩ : Isl v := HSB.out _ (List.mem_of_getElem? eb)
          have HTK := Kept.mk (kpv_take ea eb)
          obtain ⟨ac, hac, k1, k2, k3⟩ := case_cells (HRA.out.on bi) ea
          rw [hac]
          have hle : (kpvs (ca.take j) (cb.take j)).length + ((kpv a b).take q).length + 1 ≤ 1000 := by
            have h1 := congrArg List.length (kpv_take ea eb)
            simp only [List.length_append, List.length_take, List.length_cons, List.length_nil] at h1 ⊢
            omega
          obtain ⟨bd, rfl, _⟩ := pc_at (HS.out.on bi) HYB.out
          obtain ⟨bc, hbc, _⟩ := case_cells (HRB.out.on bi) eb
          have hb1i : w.heap.size + 1 ≤ wi.heap.size := by have := HC.out.base; omega
          have hn1 : n'' + 1 ≤ 1000 := by have := HNN.out; omega
          have FA : Hid (∀ W, Below (w.heap.size + 1) (wi.alloc (.cells #[.string (D.sb t), .slice x1 x2 x3] 149)) W → w.heap.size < W.heap.size ∧ W.cell? ⟨w.heap.size, 1, none⟩ = some (.slice (some bd) n d) ∧ bd.block < W.heap.size ∧ W.cell? ⟨(bd.add (j * 15)).block, (bd.add (j * 15)).off + 14, none⟩ = some (.slice (some bc) M Y'.c) ∧ bc.block < W.heap.size ∧ W.cell? ⟨(bc.add (q * 2)).block, (bc.add (q * 2)).off + 1, none⟩ = some (.slice y1 y2 y3)) := Lib.hid fun W hW => by
            have c1 : Below (w.heap.size + 1) (w.alloc (.cells #[.slice (some ad) n c, .slice (some bd) n d] 111)) W := HZ.out.trans (HY.out.trans (((below_alloc_ wi _).mono hb1i).trans hW))
            have c2 : Below w.heap.size w W := (below_alloc_ w _).trans (c1.mono (by simp))
            have c3 : W.cell? ⟨w.heap.size, 1, none⟩ = some (.slice (some bd) n d) := cell_kept_ (c1.mono (by simp)) ((Blk.new w 111 #[.slice (some ad) n c, .slice (some bd) n d]).c_ 1)
            obtain ⟨bd', e, pc⟩ := pc_at (HS.out.on c2) HYB.out
            injection e with e
            subst e
            obtain ⟨bc', e, l1, l2, l3⟩ := case_cells (HRB.out.on c2) eb
            rw [hbc] at e
            injection e with e
            subst e
            have hp := pc.c
            rw [hbc, HM2.out] at hp
            exact ⟨by have := c1.size; simp at this; omega, c3, pc.l, hp, l1, l3⟩
          have hIq : (q : Int) < M := by omega
          have HT0 : Blk (wi.alloc (.cells #[.string (D.sb t), .slice x1 x2 x3] 149)) wi.heap.size 149 #[.string (D.sb t), .slice x1 x2 x3] := Blk.new _ _ _
          have HT0' := Lib.hid HT0
          clear ea eb hbc bi HT0
          go_upto_region 8 with fail
          obtain ⟨wj, hwj⟩ : ∃ wj, wi.alloc (.cells #[.string (D.sb t), .slice x1 x2 x3] 149) = wj := ⟨_, rfl⟩
          have HCj : Hid (Ow 111 2 (w.heap.size + 1) wj A'' n'' c'' (pcs (kpvs (ca.take j) (cb.take j) ++ (kpv a b).take q))) := Lib.hid (by rw [← hwj]; exact HC.out.alloc _)
          have HYj : Hid (Below (w.heap.size + 1) wo wj) := Lib.hid (by rw [← hwj]; exact HY.out.trans ((below_alloc_ wi _).mono hb1i))
          rw [hwj] at HT0' FA
          try rw [hwj]
          clear hwj HY HC
          refine wp_region_noPanic ?_
          refine wp_region_held_drew (S := fun W' => Below (w.heap.size + 1) wj W' ∧ Blk W' wi.heap.size 149 #[.string (D.sb t), .slice x1 x2 x3]) (by kernel_rfl) ⟨((Below.refl _ _).drew.mono HCj.out.base), HT0'.out.drew⟩ (fun _ => ?_)
          obtain ⟨wd, hwd⟩ : ∃ wd, wj.drew = wd := ⟨_, rfl⟩
          have bd0 : Below wj.heap.size wj wd := by rw [← hwd]; exact (Below.refl _ _).drew
          have HCd := Lib.hid (HCj.out.on bd0)
          have HTd := Lib.hid (HT0'.out.on bd0)
          have sd : Below (w.heap.size + 1) wj wd ∧ Blk wd wi.heap.size 149 #[.string (D.sb t), .slice x1 x2 x3] := ⟨bd0.mono HCj.out.base, HTd.out⟩
          rw [hwd]
          clear hwd
          refine takeS 0 (some 24) ?va0 (by kernel_rfl) (by kernel_rfl) (by kernel_rfl) (by kernel_rfl) (fun _ _ _ h => h) (by rfl) ?hya0 sd ?resta0
          case hya0 => (intro o ho W hW; simp only [List.getElem?_toArray, List.getElem?_cons_succ, List.getElem?_cons_zero, Option.some.injEq] at ho; subst ho; (try dsimp only at hW); obtain ⟨h1, h2⟩ := hW; obtain ⟨f0, f1, f2, f3, f4, f5⟩ := FA.out _ h1; have f6 := h2.c_ 1; have f7 := h2.lt; go_simp; try rfl)
          try simp only [Act.put, List.setIfInBounds_toArray, List.set_cons_zero, List.set_cons_succ]
          refine takeS 1 (some 25) ?va1 (by kernel_rfl) (by kernel_rfl) (by kernel_rfl) (by kernel_rfl) (fun _ _ _ h => h) (by rfl) ?hya1 sd ?resta1
          case hya1 => (intro o ho W hW; simp only [List.getElem?_toArray, List.getElem?_cons_succ, List.getElem?_cons_zero, Option.some.injEq] at ho; subst ho; (try dsimp only at hW); obtain ⟨h1, h2⟩ := hW; obtain ⟨f0, f1, f2, f3, f4, f5⟩ := FA.out _ h1; have f6 := h2.c_ 1; have f7 := h2.lt; go_simp; try rfl)
          try simp only [Act.put, List.setIfInBounds_toArray, List.set_cons_zero, List.set_cons_succ]
          refine takeS 2 (some 26) ?va2 (by kernel_rfl) (by kernel_rfl) (by kernel_rfl) (by kernel_rfl) (fun _ _ _ h => h) (by rfl) ?hya2 sd ?resta2
          case hya2 => (intro o ho W hW; simp only [List.getElem?_toArray, List.getElem?_cons_succ, List.getElem?_cons_zero, Option.some.injEq] at ho; subst ho; (try dsimp only at hW); obtain ⟨h1, h2⟩ := hW; obtain ⟨f0, f1, f2, f3, f4, f5⟩ := FA.out _ h1; have f6 := h2.c_ 1; have f7 := h2.lt; go_simp; try rfl)
          try simp only [Act.put, List.setIfInBounds_toArray, List.set_cons_zero, List.set_cons_succ]
          refine takeS 3 (some 27) ?va3 (by kernel_rfl) (by kernel_rfl) (by kernel_rfl) (by kernel_rfl) (fun _ _ _ h => h) (by rfl) ?hya3 sd ?resta3
          case hya3 => (intro o ho W hW; simp only [List.getElem?_toArray, List.getElem?_cons_succ, List.getElem?_cons_zero, Option.some.injEq] at ho; subst ho; (try dsimp only at hW); obtain ⟨h1, h2⟩ := hW; obtain ⟨f0, f1, f2, f3, f4, f5⟩ := FA.out _ h1; have f6 := h2.c_ 1; have f7 := h2.lt; go_simp; try rfl)
          try simp only [Act.put, List.setIfInBounds_toArray, List.set_cons_zero, List.set_cons_succ]
          refine takeS 4 (some 28) ?va4 (by kernel_rfl) (by kernel_rfl) (by kernel_rfl) (by kernel_rfl) (fun _ _ _ h => h) (by rfl) ?hya4 sd ?resta4
          case hya4 => (intro o ho W hW; simp only [List.getElem?_toArray, List.getElem?_cons_succ, List.getElem?_cons_zero, Option.some.injEq] at ho; subst ho; (try dsimp only at hW); obtain ⟨h1, h2⟩ := hW; obtain ⟨f0, f1, f2, f3, f4, f5⟩ := FA.out _ h1; have f6 := h2.c_ 1; have f7 := h2.lt; go_simp; try rfl)
          try simp only [Act.put, List.setIfInBounds_toArray, List.set_cons_zero, List.set_cons_succ]
          refine takeS 5 (some 29) ?va5 (by kernel_rfl) (by kernel_rfl) (by kernel_rfl) (by kernel_rfl) (fun _ _ _ h => h) (by rfl) ?hya5 sd ?resta5
          case hya5 => (intro o ho W hW; simp only [List.getElem?_toArray, List.getElem?_cons_succ, List.getElem?_cons_zero, Option.some.injEq] at ho; subst ho; (try dsimp only at hW); obtain ⟨h1, h2⟩ := hW; obtain ⟨f0, f1, f2, f3, f4, f5⟩ := FA.out _ h1; have f6 := h2.c_ 1; have f7 := h2.lt; go_simp; try rfl)
          try simp only [Act.put, List.setIfInBounds_toArray, List.set_cons_zero, List.set_cons_succ]
          refine takeS 6 (some 30) ?va6 (by kernel_rfl) (by kernel_rfl) (by kernel_rfl) (by kernel_rfl) (fun _ _ _ h => h) (by rfl) ?hya6 sd ?resta6
          case hya6 => (intro o ho W hW; simp only [List.getElem?_toArray, List.getElem?_cons_succ, List.getElem?_cons_zero, Option.some.injEq] at ho; subst ho; (try dsimp only at hW); obtain ⟨h1, h2⟩ := hW; obtain ⟨f0, f1, f2, f3, f4, f5⟩ := FA.out _ h1; have f6 := h2.c_ 1; have f7 := h2.lt; go_simp; try rfl)
          try simp only [Act.put, List.setIfInBounds_toArray, List.set_cons_zero, List.set_cons_succ]
          refine takeS 7 (some 31) ?va7 (by kernel_rfl) (by kernel_rfl) (by kernel_rfl) (by kernel_rfl) (fun _ _ _ h => h) (by rfl) ?hya7 sd ?resta7
          case hya7 => (intro o ho W hW; simp only [List.getElem?_toArray, List.getElem?_cons_succ, List.getElem?_cons_zero, Option.some.injEq] at ho; subst ho; (try dsimp only at hW); obtain ⟨h1, h2⟩ := hW; obtain ⟨f0, f1, f2, f3, f4, f5⟩ := FA.out _ h1; have f6 := h2.c_ 1; have f7 := h2.lt; go_simp; try rfl)
          try simp only [Act.put, List.setIfInBounds_toArray, List.set_cons_zero, List.set_cons_succ]
          refine takeS 8 (some 32) ?va8 (by kernel_rfl) (by kernel_rfl) (by kernel_rfl) (by kernel_rfl) (fun _ _ _ h => h) (by rfl) ?hya8 sd ?resta8
          case hya8 => (intro o ho W hW; simp only [List.getElem?_toArray, List.getElem?_cons_succ, List.getElem?_cons_zero, Option.some.injEq] at ho; subst ho; (try dsimp only at hW); obtain ⟨h1, h2⟩ := hW; obtain ⟨f0, f1, f2, f3, f4, f5⟩ := FA.out _ h1; have f6 := h2.c_ 1; have f7 := h2.lt; go_simp; try rfl)
          try simp only [Act.put, List.setIfInBounds_toArray, List.set_cons_zero, List.set_cons_succ]
          refine takeS 9 (some 33) ?va9 (by kernel_rfl) (by kernel_rfl) (by kernel_rfl) (by kernel_rfl) (fun _ _ _ h => h) (by rfl) ?hya9 sd ?resta9
          case hya9 => (intro o ho W hW; simp only [List.getElem?_toArray, List.getElem?_cons_succ, List.getElem?_cons_zero, Option.some.injEq] at ho; subst ho; (try dsimp only at hW); obtain ⟨h1, h2⟩ := hW; obtain ⟨f0, f1, f2, f3, f4, f5⟩ := FA.out _ h1; have f6 := h2.c_ 1; have f7 := h2.lt; go_simp; try rfl)
          try simp only [Act.put, List.setIfInBounds_toArray, List.set_cons_zero, List.set_cons_succ]
          refine takeS 10 (some 34) ?va10 (by kernel_rfl) (by kernel_rfl) (by kernel_rfl) (by kernel_rfl) (fun _ _ _ h => h) (by rfl) ?hya10 sd ?resta10
          case hya10 => (intro o ho W hW; simp only [List.getElem?_toArray, List.getElem?_cons_succ, List.getElem?_cons_zero, Option.some.injEq] at ho; subst ho; (try dsimp only at hW); obtain ⟨h1, h2⟩ := hW; obtain ⟨f0, f1, f2, f3, f4, f5⟩ := FA.out _ h1; have f6 := h2.c_ 1; have f7 := h2.lt; go_simp; try rfl)
          try simp only [Act.put, List.setIfInBounds_toArray, List.set_cons_zero, List.set_cons_succ]
          refine takeS 11 (some 35) ?va11 (by kernel_rfl) (by kernel_rfl) (by kernel_rfl) (by kernel_rfl) (fun _ _ _ h => h) (by rfl) ?hya11 sd ?resta11
          case hya11 => (intro o ho W hW; simp only [List.getElem?_toArray, List.getElem?_cons_succ, List.getElem?_cons_zero, Option.some.injEq] at ho; subst ho; (try dsimp only at hW); obtain ⟨h1, h2⟩ := hW; obtain ⟨f0, f1, f2, f3, f4, f5⟩ := FA.out _ h1; have f6 := h2.c_ 1; have f7 := h2.lt; go_simp; try rfl)
          try simp only [Act.put, List.setIfInBounds_toArray, List.set_cons_zero, List.set_cons_succ]
          refine takeS 12 (some 36) ?va12 (by kernel_rfl) (by kernel_rfl) (by kernel_rfl) (by kernel_rfl) (fun _ _ _ h => h) (by rfl) ?hya12 sd ?resta12
          case hya12 => (intro o ho W hW; simp only [List.getElem?_toArray, List.getElem?_cons_succ, List.getElem?_cons_zero, Option.some.injEq] at ho; subst ho; (try dsimp only at hW); obtain ⟨h1, h2⟩ := hW; obtain ⟨f0, f1, f2, f3, f4, f5⟩ := FA.out _ h1; have f6 := h2.c_ 1; have f7 := h2.lt; go_simp; try rfl)
          try simp only [Act.put, List.setIfInBounds_toArray, List.set_cons_zero, List.set_cons_succ]
          refine takeS 13 (some 37) ?va13 (by kernel_rfl) (by kernel_rfl) (by kernel_rfl) (by kernel_rfl) (fun _ _ _ h => h) (by rfl) ?hya13 sd ?resta13
          case hya13 => (intro o ho W hW; simp only [List.getElem?_toArray, List.getElem?_cons_succ, List.getElem?_cons_zero, Option.some.injEq] at ho; subst ho; (try dsimp only at hW); obtain ⟨h1, h2⟩ := hW; obtain ⟨f0, f1, f2, f3, f4, f5⟩ := FA.out _ h1; have f6 := h2.c_ 1; have f7 := h2.lt; go_simp; try rfl)
          try simp only [Act.put, List.setIfInBounds_toArray, List.set_cons_zero, List.set_cons_succ]
          refine nextS 14 (by kernel_rfl) (by rfl) (fun o ho K hK => ?_)
          simp only [List.getElem?_toArray, List.getElem?_cons_succ, List.getElem?_cons_zero, Option.some.injEq] at ho; subst ho
          go_simp
          have ba : Below wd.heap.size wd (wd.alloc (.cells #[.slice x1 x2 x3, .slice y1 y2 y3] 111)) := below_alloc_ _ _
          have HCa := Lib.hid (HCd.out.on ba)
          have HTa := Lib.hid (HTd.out.on ba)
          have sa : Below (w.heap.size + 1) wj (wd.alloc (.cells #[.slice x1 x2 x3, .slice y1 y2 y3] 111)) ∧ Blk (wd.alloc (.cells #[.slice x1 x2 x3, .slice y1 y2 y3] 111)) wi.heap.size 149 #[.string (D.sb t), .slice x1 x2 x3] := ⟨sd.1.trans (ba.mono HCd.out.base), HTa.out⟩
          refine hK.out _ _ sa (fun _ => ?_)
          clear hK K
          try simp only [Act.put, List.setIfInBounds_toArray, List.set_cons_zero, List.set_cons_succ]
          refine nextS 15 (by kernel_rfl) (by rfl) (fun o ho K hK => ?_)
          simp only [List.getElem?_toArray, List.getElem?_cons_succ, List.getElem?_cons_zero, Option.some.injEq] at ho; subst ho
          refine gappO pair_under pair_info rfl (by decide) (by decide) (.tmp 24) (.tmp 38) rfl rfl HCa.out rfl (rw_pair wd _ rfl 111 (.slice x1 x2 x3) (.slice y1 y2 y3)) (fun u h => by simp [pcs] at h; rcases h with rfl | rfl <;> rfl) (by omega) ?_
          intro A5 c6 w3 h3 hg3 hor3
          have T3 := HTa.out.grown hg3 (fun e => HCa.out.neb HTa.out (by decide) e.symm)
          have s3 : Below (w.heap.size + 1) wj w3 ∧ Blk w3 wi.heap.size 149 #[.string (D.sb t), .slice x1 x2 x3] := ⟨sa.1.trans (ow_below HCa.out hg3), T3⟩
          refine hK.out _ _ s3 (fun _ => ?_)
          clear hK K
          try simp only [Act.put, List.setIfInBounds_toArray, List.set_cons_zero, List.set_cons_succ]
          refine takeS 16 (some 3) ?vb16 (by kernel_rfl) (by kernel_rfl) (by kernel_rfl) (by kernel_rfl) (fun _ _ _ h => h) (by rfl) ?hyb16 s3 ?restb16
          case hyb16 => (intro o ho W hW; simp only [List.getElem?_toArray, List.getElem?_cons_succ, List.getElem?_cons_zero, Option.some.injEq] at ho; subst ho; (try dsimp only at hW); skip; go_simp; try rfl)
          try simp only [Act.put, List.setIfInBounds_toArray, List.set_cons_zero, List.set_cons_succ]
          refine wpAnyH_done (by kernel_rfl) ?_ _
          refine NoPanic.normal ?_
          go_wp2_with fail
          go_roundw
          case rel => exact ⟨q + 1, A5, n'' + 1, c6, by omega, by go_num, rfl, by rw [HTK.out, List.length_append, HNN.out]; simp; omega, Lib.hid (by rw [HTK.out, ← List.append_assoc, pcs_app]; exact h3), Lib.hid (HYj.out.trans s3.1)⟩
          case measure => simp [intOf]; omega
        · obtain rfl : q = M := by omega
          have e3 : (kpv a b).take q = kpv a b := List.take_of_length_le (by unfold kpv; simp; omega)
          rw [e3] at HC HNN
          have HLT := Kept.mk hlt
          go_wp2_with fail
          go_roundw
          case rel => exact ⟨j + 1, A'', n'', c'', HLT.out, by go_num, rfl, by rw [HKT.out, List.length_append]; exact HNN.out, Lib.hid (by rw [HKT.out]; exact HC.out), Lib.hid (HZ.out.trans HY.out)⟩
          case measure => have := HLT.out; simp [intOf]; omega
    · obtain rfl : j = n := by omega
      have e1 : ca.take j = ca := List.take_of_length_le (by omega)
      have e2 : cb.take j = cb := List.take_of_length_le (by omega)
      rw [e1, e2] at HC hn'
      subst hn'
      go_wp2
      go_ret
      exact ⟨A', c', rfl, HC.out.base_ (by omega), (below_alloc_ w _).trans (HZ.out.mono (by simp))⟩
end Go.Proofs.YtohhfcfnclafdaaGreatDoor
set_option linter.unusedVariables false
set_option linter.unusedSimpArgs false
set_option maxRecDepth 100000
namespace Go.Proofs.YtohhfcfnclafdaaGreatDoor
open Go.RowKit

/-- Where two lists begin, and how many parts they have. -/
abbrev Fk := Option Addr × Option Addr × Nat
def kv (k : Fk) : Value := .agg #[.pointer k.1, .pointer k.2.1, .int .i64 (k.2.2 : Nat)]
/-- It lies in plain cells, or nowhere. -/
def Pla (w : World) (x : Option Addr) : Prop := ∀ ad, x = some ad → ∃ cs T, w.heap[ad.block]? = some (.cells cs T (0, 0))
def Plk (w : World) (k : Fk) : Prop := Pla w k.1 ∧ Pla w k.2.1
theorem Pla.on {w w' : World} {x : Option Addr} (h : Pla w x) (b : Below w.heap.size w w') : Pla w' x := fun ad e => by
  obtain ⟨cs, T, hh⟩ := h ad e
  exact ⟨cs, T, (b.block _ (lt_of_block hh)).trans hh⟩
theorem run_eqp {w : World} (d : Nat) {x y : Option Addr} (hx : Pla w x) (hy : Pla w y) : (Op.equalIn (d + 1) 120 (.pointer x) (.pointer y)).run Tryz.prog w = .ok (decide (x = y)) w := by
  have hp : Tryz.prog.underlying 120 = some (.pointer 116) := by kernel_rfl
  have hs : ∀ w, (sizeOf 116).run Tryz.prog w = .ok 15 w := Tryz.sizeOf116
  rcases x with _ | a
  · rcases y with _ | b
    · simp [Op.equalIn, run_underlying hp]
    · simp [Op.equalIn, run_underlying hp]
  · rcases y with _ | b
    · simp [Op.equalIn, run_underlying hp]
    · by_cases e : a = b
      · subst e
        simp [Op.equalIn, run_underlying hp, hs, run_sameAddr_same]
      · obtain ⟨ca, ta, ha⟩ := hx a rfl
        obtain ⟨cb, tb, hb⟩ := hy b rfl
        simp [Op.equalIn, run_underlying hp, hs, run_sameAddr_other w e ha hb, e]
theorem fk_held : Tryz.prog.stoodInHeld 122 = false := by kernel_rfl
theorem run_part (w : World) (t : TypeId) (vs : Array Value) (o : Nat) (v : Value) (hs : (sizeOf t).run Tryz.prog w = .ok 1 w) (ha : (isAgg t).run Tryz.prog w = .ok false w) (hv : vs[o]? = some v) : (part t vs o).run Tryz.prog w = .ok v w := by
  simp [part, hs, ha, hv]
theorem run_eqk {w : World} {k l : Fk} (hk : Plk w k) (hl : Plk w l) : (Op.equal 122 (kv k) (kv l)).run Tryz.prog w = .ok (decide (k = l)) w := by
  obtain ⟨a, b, n⟩ := k
  obtain ⟨a', b', n'⟩ := l
  have h1 := run_eqp 9998 hk.1 hl.1
  have h2 := run_eqp 9998 hk.2 hl.2
  simp only at h1 h2
  have h3 : (Op.equalIn 9999 3 (.int .i64 (n : Nat)) (.int .i64 (n' : Nat))).run Tryz.prog w = .ok ((n : Int) == (n' : Int)) w := run_equalIn_int w 9998 _ _ .i64 _ _ (by kernel_rfl)
  have e : (Op.equal 122 (kv (a, b, n)) (kv (a', b', n'))).run Tryz.prog w = (Op.eqFields 9999 #[.pointer a, .pointer b, .int .i64 (n : Nat)] #[.pointer a', .pointer b', .int .i64 (n' : Nat)] (Tryz.prog.fieldsOf 122).toList).run Tryz.prog w := run_equalIn_struct w 9999 _ _ _ (by kernel_rfl) fk_held
  rw [e]
  simp only [Program.fieldsOf, Tryz.underlying122, Op.eqFields]
  have pp : ∀ (vs : Array Value) (o : Nat) (v : Value), vs[o]? = some v → (part 120 vs o).run Tryz.prog w = .ok v w := fun vs o v hv => run_part w _ vs o v (by simp [go_sem]) (by simp [go_sem]) hv
  have pi : ∀ (vs : Array Value) (o : Nat) (v : Value), vs[o]? = some v → (part 3 vs o).run Tryz.prog w = .ok v w := fun vs o v hv => run_part w _ vs o v (by simp [go_sem]) (by simp [go_sem]) hv
  have x0 := pp _ _ _ (show (#[Value.pointer a, .pointer b, .int .i64 (n : Nat)] : Array Value)[0]? = some (.pointer a) from rfl)
  have x1 := pp _ _ _ (show (#[Value.pointer a, .pointer b, .int .i64 (n : Nat)] : Array Value)[1]? = some (.pointer b) from rfl)
  have x2 := pi _ _ _ (show (#[Value.pointer a, .pointer b, .int .i64 (n : Nat)] : Array Value)[2]? = some (.int .i64 (n : Nat)) from rfl)
  have y0 := pp _ _ _ (show (#[Value.pointer a', .pointer b', .int .i64 (n' : Nat)] : Array Value)[0]? = some (.pointer a') from rfl)
  have y1 := pp _ _ _ (show (#[Value.pointer a', .pointer b', .int .i64 (n' : Nat)] : Array Value)[1]? = some (.pointer b') from rfl)
  have y2 := pi _ _ _ (show (#[Value.pointer a', .pointer b', .int .i64 (n' : Nat)] : Array Value)[2]? = some (.int .i64 (n' : Nat)) from rfl)
  clear pp pi e
  by_cases ea : a = a'
  · subst ea
    by_cases eb : b = b'
    · subst eb
      by_cases en : n = n'
      · subst en
        simp [x0, x1, x2, h1, h2, h3]
      · have en' : ¬ (n : Int) = (n' : Int) := by omega
        simp [x0, x1, x2, y0, y1, y2, h1, h2, h3, en, en']
    · simp [x0, x1, y0, y1, h1, h2, eb]
  · simp [x0, y0, h1, ea]
theorem run_ckk (w : World) (em : Bool) (k : Fk) : (Instr.checkKey em 10000 122 (kv k)).run Tryz.prog w = .ok () w := by
  obtain ⟨a, b, n⟩ := k
  have hp : Tryz.prog.underlying 120 = some (.pointer 116) := by kernel_rfl
  have hi : Tryz.prog.underlying 3 = some (.int .i64) := by kernel_rfl
  have x0 : ∀ (vs : Array Value) (o : Nat) (v : Value), vs[o]? = some v → (part 120 vs o).run Tryz.prog w = .ok v w := fun vs o v hv => run_part w _ vs o v (by simp [go_sem]) (by simp [go_sem]) hv
  have x2 : ∀ (vs : Array Value) (o : Nat) (v : Value), vs[o]? = some v → (part 3 vs o).run Tryz.prog w = .ok v w := fun vs o v hv => run_part w _ vs o v (by simp [go_sem]) (by simp [go_sem]) hv
  have x0' := x0 _ _ _ (show (#[Value.pointer a, .pointer b, .int .i64 (n : Nat)] : Array Value)[0]? = some (.pointer a) from rfl)
  have x1' := x0 _ _ _ (show (#[Value.pointer a, .pointer b, .int .i64 (n : Nat)] : Array Value)[1]? = some (.pointer b) from rfl)
  have x2' := x2 _ _ _ (show (#[Value.pointer a, .pointer b, .int .i64 (n : Nat)] : Array Value)[2]? = some (.int .i64 (n : Nat)) from rfl)
  have cp : ∀ v, (Instr.checkKey em 9999 120 v).run Tryz.prog w = .ok () w := fun v => by
    rw [show (9999 : Nat) = 9998 + 1 from rfl, Instr.checkKey]
    simp [run_underlying hp]
  have ci : ∀ v, (Instr.checkKey em 9999 3 v).run Tryz.prog w = .ok () w := fun v => by
    rw [show (9999 : Nat) = 9998 + 1 from rfl, Instr.checkKey]
    simp [run_underlying hi]
  rw [show (10000 : Nat) = 9999 + 1 from rfl, Instr.checkKey]
  simp only [Sem.run_bind, run_underlying Tryz.underlying122, Result.andThen_ok, kv]
  simp [x0', x1', x2', cp, ci]
theorem fk_map : Tryz.prog.underlying 109 = some (.map 122 118) := Tryz.underlying109
/-- A set of such keys, in memory. -/
structure FkAt (w : World) (g : Nat) (E : List Fk) : Prop where
  out : ∃ (es : Array MapEntry) (clock : Nat), w.heap[g]? = some (.map es clock) ∧ es.toList.map (fun e => (e.key, e.val)) = E.map fun k => (kv k, Value.agg #[])
theorem FkAt.lt {w : World} {g : Nat} {E : List Fk} (h : FkAt w g E) : g < w.heap.size := by
  obtain ⟨es, clock, hb, _⟩ := h.out
  exact lt_of_block hb
theorem FkAt.on {w w' : World} {g : Nat} {E : List Fk} (h : FkAt w g E) (b : Below w.heap.size w w') : FkAt w' g E := by
  obtain ⟨es, clock, hb, r⟩ := h.out
  exact ⟨es, clock, (b.block _ h.lt).trans hb, r⟩
theorem FkAt.to {w w' : World} {g : Nat} {E : List Fk} (h : FkAt w g E) (b : w'.heap[g]? = w.heap[g]?) : FkAt w' g E := by
  obtain ⟨es, clock, hb, r⟩ := h.out
  exact ⟨es, clock, b.trans hb, r⟩
theorem fk_new (w : World) (g : Nat) (hg : g = w.heap.size) : FkAt (w.alloc (.map #[] 0)) g [] := by
  subst hg
  exact ⟨#[], 0, heap_alloc_new w _, rfl⟩
theorem run_asking {w : World} {k : Fk} (hk : Plk w k) : ∀ (es : List MapEntry) (E : List Fk) (i : Nat), es.map (fun e => (e.key, e.val)) = E.map (fun k => (kv k, Value.agg #[])) → (∀ l ∈ E, Plk w l) →
    (k ∈ E ∧ ∃ j, (Instr.findAsking 122 (kv k) es i).run Tryz.prog w = .ok (some (j, .agg #[])) w) ∨ (k ∉ E ∧ (Instr.findAsking 122 (kv k) es i).run Tryz.prog w = .ok none w)
  | [], [], i, _, _ => .inr ⟨by simp, by simp [Instr.findAsking]⟩
  | [], l :: E, i, h, _ => by simp at h
  | e :: es, [], i, h, _ => by simp at h
  | e :: es, l :: E, i, h, hE => by
    simp only [List.map_cons, List.cons.injEq, Prod.mk.injEq] at h
    obtain ⟨⟨h1, h2⟩, h3⟩ := h
    have he := run_eqk hk (hE l (by simp))
    rw [← h1] at he
    by_cases ek : k = l
    · rw [decide_eq_true ek] at he
      exact .inl ⟨by simp [ek], i, by simp [Instr.findAsking, he, h2]⟩
    · rw [decide_eq_false ek] at he
      rcases run_asking hk es E (i + 1) h3 (fun x hx => hE x (by simp [hx])) with ⟨a, j, hj⟩ | ⟨a, hj⟩
      · exact .inl ⟨by simp [a], j, by simp [Instr.findAsking, he, hj]⟩
      · exact .inr ⟨by simp [a, ek], by simp [Instr.findAsking, he, hj]⟩
theorem run_findk {w : World} {k : Fk} (hk : Plk w k) (es : List MapEntry) (E : List Fk) (h : es.map (fun e => (e.key, e.val)) = E.map (fun k => (kv k, Value.agg #[]))) (hE : ∀ l ∈ E, Plk w l) :
    (k ∈ E ∧ ∃ j, (Instr.findKey 122 (kv k) es).run Tryz.prog w = .ok (some (j, .agg #[])) w) ∨ (k ∉ E ∧ (Instr.findKey 122 (kv k) es).run Tryz.prog w = .ok none w) := by
  cases es with
  | nil =>
    cases E with
    | nil => exact .inr ⟨by simp, by simp [Instr.findKey, run_underlying Tryz.underlying122, Instr.findNow]⟩
    | cons l E => simp at h
  | cons e es =>
    have e0 : (Instr.findKey 122 (kv k) (e :: es)).run Tryz.prog w = (Instr.findAsking 122 (kv k) (e :: es)).run Tryz.prog w := by
      simp [Instr.findKey, run_underlying Tryz.underlying122, Instr.findNow, Instr.sameNow]
    rw [e0]
    exact run_asking hk (e :: es) E 0 h hE
theorem FkAt.look {w : World} {g : Nat} {E : List Fk} (h : FkAt w g E) {k : Fk} (hk : Plk w k) (hE : ∀ l ∈ E, Plk w l) : (Instr.lookup 109 (.map (some g)) (kv k) true).run Tryz.prog w = .ok (.tuple #[.agg #[], .bool (decide (k ∈ E))]) w := by
  obtain ⟨es, clock, hb, he⟩ := h.out
  have hz : (zeroValue 118).run Tryz.prog w = .ok (.agg #[]) w := by rw [Tryz.zeroValue118]
  rcases run_findk hk es.toList E he hE with ⟨hm, j, hf⟩ | ⟨hm, hf⟩
  · simp [Instr.lookup, run_underlying fk_map, MapKept.run_getObj_map hb, run_ckk, hf, hm]
  · simp [Instr.lookup, run_underlying fk_map, MapKept.run_getObj_map hb, run_ckk, hf, hm, hz]
theorem FkAt.put {w : World} {g : Nat} {E : List Fk} (h : FkAt w g E) {k : Fk} (hk : Plk w k) (hE : ∀ l ∈ E, Plk w l) (hn : k ∉ E) :
    ∃ w', (Instr.mapUpdate 109 (.map (some g)) (kv k) (.agg #[])).run Tryz.prog w = .ok () w' ∧ FkAt w' g (E ++ [k]) ∧ w.grownBy w' (some g) := by
  obtain ⟨es, clock, hb, he⟩ := h.out
  rcases run_findk hk es.toList E he hE with ⟨hm, j, hf⟩ | ⟨hm, hf⟩
  · exact absurd hm hn
  · refine ⟨ChangeMaps.setBlock w g (.map (es.push ⟨kv k, .agg #[], clock⟩) (clock + 1)), ?_, ?_, ?_⟩
    · simp [Instr.mapUpdate, run_underlying fk_map, MapKept.run_getObj_map hb, run_ckk, hf, MapKept.run_setObj_map _ hb, ChangeMaps.setBlock]
    · refine ⟨es.push ⟨kv k, .agg #[], clock⟩, clock + 1, ?_, by simp [he]⟩
      have := h.lt
      simp [ChangeMaps.setBlock, this]
    · refine ⟨rfl, rfl, rfl, by simp [ChangeMaps.setBlock], fun q hq hne => ?_⟩
      have : ¬ g = q := fun e => hne (by rw [e])
      simp [ChangeMaps.setBlock, Array.getElem?_setIfInBounds, this]
end Go.Proofs.YtohhfcfnclafdaaGreatDoor
set_option linter.unusedVariables false
set_option linter.unusedSimpArgs false
set_option maxRecDepth 100000
namespace Go.Proofs.YtohhfcfnclafdaaGreatDoor
open Go.RowKit

/-- Two lists side by side. -/
def All2 {α β : Type} (R : α → β → Prop) : List α → List β → Prop
  | [], [] => True
  | a :: l, b :: m => R a b ∧ All2 R l m
  | [], _ :: _ => False
  | _ :: _, [] => False
theorem All2.len {α β : Type} {R : α → β → Prop} : ∀ {l : List α} {m : List β}, All2 R l m → l.length = m.length
  | [], [], _ => rfl
  | a :: l, b :: m, h => by simp [All2.len h.2]
  | [], _ :: _, h => h.elim
  | _ :: _, [], h => h.elim
theorem All2.app {α β : Type} {R : α → β → Prop} : ∀ {l l' : List α} {m m' : List β}, All2 R l m → All2 R l' m' → All2 R (l ++ l') (m ++ m')
  | [], l', [], m', _, h => h
  | a :: l, l', b :: m, m', h, h' => ⟨h.1, All2.app h.2 h'⟩
  | [], _, _ :: _, _, h, _ => h.elim
  | _ :: _, _, [], _, h, _ => h.elim
theorem All2.snoc {α β : Type} {R : α → β → Prop} : ∀ {l : List α} {a : α} {m : List β}, All2 R (l ++ [a]) m → ∃ m' b, m = m' ++ [b] ∧ All2 R l m' ∧ R a b
  | [], a, [], h => h.elim
  | [], a, [b], h => ⟨[], b, rfl, trivial, h.1⟩
  | [], a, b :: c :: m, h => h.2.elim
  | x :: l, a, [], h => h.elim
  | x :: l, a, b :: m, h => by
    obtain ⟨m', b', rfl, h1, h2⟩ := All2.snoc h.2
    exact ⟨b :: m', b', rfl, ⟨h.1, h1⟩, h2⟩
theorem All2.of {α β : Type} {R : α → β → Prop} : ∀ {l : List α} {m : List β}, l.length = m.length → (∀ (i : Nat) (a : α) (b : β), l[i]? = some a → m[i]? = some b → R a b) → All2 R l m
  | [], [], _, _ => trivial
  | [], _ :: _, h, _ => by simp at h
  | _ :: _, [], h, _ => by simp at h
  | a :: l, b :: m, hl, h => ⟨h 0 a b rfl rfl, All2.of (by simpa using hl) fun i x y hx hy => h (i + 1) x y (by simpa using hx) (by simpa using hy)⟩
/-- A pair of slices, and the lists that lie there. -/
structure It (w : World) (p : Pv) (z : List D.Nd × List D.Nd) : Prop where
  out : ∃ (r r' : Nat) (v v' : Bool), Pm (fun _ => True) w r p.1 z.1 ∧ Pm (fun _ => True) w r' p.2 z.2 ∧ D.Rt r v z.1 ∧ D.Rt r' v' z.2 ∧ (D.prL z.1).length ≤ 1000 ∧ (D.prL z.2).length ≤ 1000
theorem It.on {w w' : World} {p : Pv} {z : List D.Nd × List D.Nd} (h : It w p z) (b : Below w.heap.size w w') : It w' p z := by
  obtain ⟨r, r', v, v', h1, h2, h3⟩ := h.out
  exact ⟨r, r', v, v', h1.keep (keeps_below b), h2.keep (keeps_below b), h3⟩
theorem pm_len {F : Nat → Prop} {w : World} {r : Nat} {A : Option Addr} {n c : Nat} {l : List D.Nd} (h : Pm F w r (.slice A n c) l) : l.length = n := by
  obtain ⟨_, _, _, vs, e, _, hr, rfl, _⟩ := (Pm_eq F w r _ _).1 h
  cases e
  have := hr.row.len
  rw [Shp.rcs_len, nvs_len, show nS.n = 15 from rfl] at this
  simp; omega
/-- Where a pair begins. -/
def ky : Pv → Fk
  | (.slice A n _, .slice B _ _) => if n = 0 then (none, none, 0) else (A, B, n)
  | _ => (none, none, 0)
theorem pm_pla {F : Nat → Prop} {w : World} {r : Nat} {A : Option Addr} {n c : Nat} {l : List D.Nd} (h : Pm F w r (.slice A n c) l) (hn : 0 < n) : Pla w A := by
  obtain ⟨_, _, _, vs, e, _, hr, _⟩ := (Pm_eq F w r _ _).1 h
  cases e
  exact hr.pl hn
theorem pm_some {F : Nat → Prop} {w : World} {r : Nat} {A : Option Addr} {n c : Nat} {l : List D.Nd} (h : Pm F w r (.slice A n c) l) (hn : 0 < n) : ∃ a, A = some a := by
  obtain ⟨_, _, _, vs, e, _, hr, _⟩ := (Pm_eq F w r _ _).1 h
  cases e
  obtain ⟨a, h, _⟩ := hr.row.to hn
  exact ⟨a, h⟩
theorem It.shape {w : World} {p : Pv} {z : List D.Nd × List D.Nd} (h : It w p z) : ∃ (A B : Option Addr) (c d : Nat), p = (.slice A z.1.length c, .slice B z.2.length d) := by
  obtain ⟨r, r', v, v', h1, h2, h3⟩ := h.out
  obtain ⟨A, n, c, e⟩ := pm_slice h1
  obtain ⟨B, m, d, e'⟩ := pm_slice h2
  obtain ⟨p1, p2⟩ := p
  simp only at e e' h1 h2
  subst e e'
  rw [pm_len h1, pm_len h2]
  exact ⟨A, B, c, d, rfl⟩
theorem It.plk {w : World} {p : Pv} {z : List D.Nd × List D.Nd} (h : It w p z) (hl : z.1.length = z.2.length) : Plk w (ky p) := by
  obtain ⟨A, B, c, d, rfl⟩ := h.shape
  obtain ⟨r, r', v, v', h1, h2, h3⟩ := h.out
  show Plk w (if z.1.length = 0 then (none, none, 0) else (A, B, z.1.length))
  split
  · exact ⟨fun ad e => (by cases e), fun ad e => (by cases e)⟩
  · exact ⟨pm_pla h1 (by omega), pm_pla h2 (by omega)⟩
/-- Who begins at the same places is the same. -/
theorem It.same {w : World} {p q : Pv} {z y : List D.Nd × List D.Nd} (h : It w p z) (k : It w q y) (hl : z.1.length = z.2.length) (kl : y.1.length = y.2.length) (e : ky p = ky q) : z = y := by
  obtain ⟨A, B, c, d, rfl⟩ := h.shape
  obtain ⟨A', B', c', d', rfl⟩ := k.shape
  obtain ⟨r, r', v, v', h1, h2, h3, h4, _⟩ := h.out
  obtain ⟨s, s', u, u', k1, k2, k3, k4, _⟩ := k.out
  have e : (if z.1.length = 0 then ((none, none, 0) : Fk) else (A, B, z.1.length)) = (if y.1.length = 0 then (none, none, 0) else (A', B', y.1.length)) := e
  by_cases hz : z.1.length = 0
  · rw [if_pos hz] at e
    by_cases hy : y.1.length = 0
    · exact Prod.ext ((List.eq_nil_of_length_eq_zero hz).trans (List.eq_nil_of_length_eq_zero hy).symm) ((List.eq_nil_of_length_eq_zero (by omega)).trans (List.eq_nil_of_length_eq_zero (l := y.2) (by omega)).symm)
    · rw [if_neg hy] at e
      simp only [Prod.mk.injEq] at e
      omega
  · rw [if_neg hz] at e
    by_cases hy : y.1.length = 0
    · rw [if_pos hy] at e
      simp only [Prod.mk.injEq] at e
      omega
    · rw [if_neg hy] at e
      simp only [Prod.mk.injEq] at e
      obtain ⟨rfl, rfl, e3⟩ := e
      simp only at h1 h2 k1 k2
      rw [← e3] at k1
      rw [← kl, ← e3, hl] at k2
      exact Prod.ext (pm_uniq _ _ h1 k1 h3 k3) (pm_uniq _ _ h2 k2 h4 k4)
theorem It.firsts {w : World} {p : Pv} {z : List D.Nd × List D.Nd} (h : It w p z) (hl : z.1.length = z.2.length) (W : World) :
    Calls Tryz.prog 46 #[.agg #[p.1, p.2]] W fun e w' => e = .returned (kv (ky p)) ∧ Below W.heap.size W w' := by
  obtain ⟨A, B, c, d, rfl⟩ := h.shape
  obtain ⟨r, r', v, v', h1, h2, h3, h4, _⟩ := h.out
  show Calls Tryz.prog 46 #[.agg #[.slice A z.1.length c, .slice B z.2.length d]] W fun e w' => e = .returned (kv (if z.1.length = 0 then (none, none, 0) else (A, B, z.1.length))) ∧ Below W.heap.size W w'
  by_cases hz : z.1.length = 0
  · rw [if_pos hz]
    rw [hz]
    exact firsts_zero A B _ c d W
  · rw [if_neg hz]
    obtain ⟨a, rfl⟩ := pm_some h1 (by omega)
    obtain ⟨b, rfl⟩ := pm_some h2 (by omega)
    exact firsts_any a b _ _ c d W (by omega) (by omega)
theorem It.eqs {w : World} {p : Pv} {z : List D.Nd × List D.Nd} (h : It w p z) : Calls Tryz.prog 44 #[p.1, p.2, .func (.func 45) #[] #[]] w fun e w' => e = .returned (.bool (decide (z.1.map D.hd = z.2.map D.hd))) ∧ Below w.heap.size w w' := by
  obtain ⟨A, B, c, d, rfl⟩ := h.shape
  obtain ⟨r, r', v, v', h1, h2, h3, h4, h5, _⟩ := h.out
  exact eqNodes_any h1 h2 h3 h4 h5
theorem exists_list {α : Type} {P : Nat → α → Prop} : ∀ (n : Nat), (∀ j, j < n → ∃ a, P j a) → ∃ l : List α, l.length = n ∧ ∀ j a, l[j]? = some a → P j a
  | 0, _ => ⟨[], rfl, fun j a h => by simp at h⟩
  | n + 1, h => by
    obtain ⟨l, hl, hp⟩ := exists_list n fun j hj => h j (by omega)
    obtain ⟨a, ha⟩ := h n (by omega)
    refine ⟨l ++ [a], by simp [hl], fun j b hj => ?_⟩
    rw [List.getElem?_append] at hj
    split at hj
    · exact hp j b hj
    · have h0 : j - l.length = 0 := by
        have := (List.getElem?_eq_some_iff.1 hj).1
        simp at this; omega
      rw [h0] at hj
      simp at hj
      subst hj
      have : j = n := by omega
      subst this
      exact ha
theorem kps_all2 {w : World} : ∀ (ca cb : List (List (List Nat × Value))) (x y : List D.Nd), ca.length = x.length → cb.length = y.length → x.length = y.length → (∀ (j : Nat) (a b : List (List Nat × Value)) (p q : D.Nd), ca[j]? = some a → cb[j]? = some b → x[j]? = some p → y[j]? = some q → All2 (It w) (kpv a b) (p.ks.zip q.ks)) → All2 (It w) (kpvs ca cb) (D.kps x y)
  | [], cb, [], y, _, h2, h3, _ => by
    cases y with
    | nil => simp [kpvs, D.kps, All2]
    | cons q y => simp at h3
  | [], cb, p :: x, y, h1, _, _, _ => by simp at h1
  | a :: ca, cb, [], y, h1, _, _, _ => by simp at h1
  | a :: ca, [], p :: x, y, _, h2, h3, _ => by
    cases y with
    | nil => simp at h3
    | cons q y => simp at h2
  | a :: ca, b :: cb, p :: x, [], _, _, h3, _ => by simp at h3
  | a :: ca, b :: cb, p :: x, q :: y, h1, h2, h3, h => by
    simp only [kpvs, D.kps]
    exact All2.app (h 0 a b p q rfl rfl rfl rfl) (kps_all2 ca cb x y (by simpa using h1) (by simpa using h2) (by simpa using h3) fun j a' b' p' q' k1 k2 k3 k4 => h (j + 1) a' b' p' q' (by simpa using k1) (by simpa using k2) (by simpa using k3) (by simpa using k4))
theorem hd_at {x y : List D.Nd} (h : x.map D.hd = y.map D.hd) {j : Nat} {a b : D.Nd} (ha : x[j]? = some a) (hb : y[j]? = some b) : D.hd a = D.hd b := by
  have h1 : (x.map D.hd)[j]? = some (D.hd a) := by simp [ha]
  rw [h] at h1
  have h2 : (y.map D.hd)[j]? = some (D.hd b) := by simp [hb]
  rw [h1] at h2
  injection h2
/-- What stands in the cases of two lists that are the same part by part. -/
theorem It.within {w : World} {p : Pv} {z : List D.Nd × List D.Nd} (h : It w p z) (hh : z.1.map D.hd = z.2.map D.hd) (W : World) (hW : Below w.heap.size w W) :
    Calls Tryz.prog 47 #[.agg #[p.1, p.2]] W fun e w' => ∃ (A' : Option Addr) (c' : Nat) (ps : List Pv), e = .returned (.slice A' ps.length c') ∧ Rw 2 w' A' ps.length (pcs ps) ∧ All2 (It w) ps (D.kps z.1 z.2) ∧ Below W.heap.size W w' := by
  obtain ⟨A, B, c, d, rfl⟩ := h.shape
  obtain ⟨r, r', v, v', h1, h2, h3, h4, h5, h6⟩ := h.out
  obtain ⟨x, y⟩ := z
  simp only at h1 h2 h3 h4 h5 h6 hh ⊢
  have hwx := D.rt_wl h3
  obtain ⟨_, _, _, vs, e, _, hr, rfl, hx⟩ := (Pm_eq _ w r _ _).1 h1
  cases e
  obtain ⟨_, _, _, us, e, _, hs, rfl, hy⟩ := (Pm_eq _ w r' _ _).1 h2
  cases e
  obtain ⟨ch, ho⟩ := D.rt_ok h3
  obtain ⟨ch', ho'⟩ := D.rt_ok h4
  have hll : vs.length = us.length := by have := congrArg List.length hh; simpa using this
  have hn : vs.length ≤ 1000 := by have := D.len_le ho; simp at this; omega
  have hex : ∀ {F : Nat → Prop} {s : Nat} {ts : List (D.Nd × D.Sl)}, (∀ (i : Nat) (x : D.Nd) (p : D.Sl), ts[i]? = some (x, p) → Pel (Pk F w s) F w x p) → ∃ l : List (List (List Nat × Value)), l.length = ts.length ∧ ∀ (j : Nat) (a : List (List Nat × Value)), l[j]? = some a → ∀ (x : D.Nd) (p : D.Sl), ts[j]? = some (x, p) → Rw 2 w p.A p.m (ccs a) ∧ a.map (·.1) = x.ws ∧ a.length = x.ks.length ∧ (∀ u ∈ a, Isl u.2) ∧ ∀ (j : Nat) (t : List Nat) (u : Value) (q : List D.Nd), a[j]? = some (t, u) → x.ks[j]? = some q → Pk F w s u q := fun {F s ts} ht => by
    refine exists_list (P := fun (j : Nat) (a : List (List Nat × Value)) => ∀ (x : D.Nd) (p : D.Sl), ts[j]? = some (x, p) → Rw 2 w p.A p.m (ccs a) ∧ a.map (·.1) = x.ws ∧ a.length = x.ks.length ∧ (∀ u ∈ a, Isl u.2) ∧ ∀ (j : Nat) (t : List Nat) (u : Value) (q : List D.Nd), a[j]? = some (t, u) → x.ks[j]? = some q → Pk F w s u q) ts.length fun j hj => ?_
    obtain ⟨⟨x, p⟩, hxp⟩ : ∃ a, ts[j]? = some a := ⟨_, List.getElem?_eq_getElem hj⟩
    obtain ⟨_, _, cs, hc, hw, _, hcl, hkk⟩ := ht j x p hxp
    refine ⟨cs, fun x' p' e => ?_⟩
    rw [hxp] at e
    injection e with e
    injection e with e1 e2
    subst e1 e2
    exact ⟨hc.row, hw, hcl, pel_slices hcl hkk, hkk⟩
  obtain ⟨ca, hca, pa⟩ := hex hx
  obtain ⟨cb, hcb, pb⟩ := hex hy
  have hit : ∀ (j : Nat) (a b : List (List Nat × Value)) (p q : D.Nd), ca[j]? = some a → cb[j]? = some b → (vs.map (·.1))[j]? = some p → (us.map (·.1))[j]? = some q → All2 (It w) (kpv a b) (p.ks.zip q.ks) := fun j a b p q ha hb hp hq => by
    have hj := (List.getElem?_eq_some_iff.1 ha).1
    obtain ⟨⟨p', s⟩, ev⟩ : ∃ a, vs[j]? = some a := ⟨_, List.getElem?_eq_getElem (by omega)⟩
    obtain ⟨⟨q', s'⟩, eu⟩ : ∃ a, us[j]? = some a := ⟨_, List.getElem?_eq_getElem (by omega)⟩
    have e1 := vs_list rfl ev
    rw [hp] at e1
    injection e1 with e1
    subst e1
    have e2 := vs_list rfl eu
    rw [hq] at e2
    injection e2 with e2
    subst e2
    obtain ⟨_, a1, a2, a3, a4⟩ := pa j a ha p s ev
    obtain ⟨_, b1, b2, b3, b4⟩ := pb j b hb q s' eu
    have op := (D.okLs_at ho hp).1
    have oq := (D.okLs_at ho' hq).1
    have hw : p.ws = q.ws := by have := hd_at hh hp hq; simp only [D.hd, Prod.mk.injEq] at this; exact this.2.2.2
    have hkl : a.length = b.length := by have h1 := congrArg List.length a1; have h2 := congrArg List.length b1; rw [hw] at h1; simp at h1 h2; omega
    refine All2.of (by unfold kpv; simp; omega) fun i u s hu hs => ?_
    unfold kpv at hu
    rw [List.getElem?_zip_eq_some] at hu hs
    obtain ⟨s1, s2⟩ := hs
    have hi : i < a.length := by have := (List.getElem?_eq_some_iff.1 s1).1; omega
    have hi' : i < b.length := by omega
    have g1 : a[i]? = some ((a[i]'hi).1, (a[i]'hi).2) := List.getElem?_eq_getElem hi
    have g2 : b[i]? = some ((b[i]'hi').1, (b[i]'hi').2) := List.getElem?_eq_getElem hi'
    have eu : u = ((a[i]'hi).2, (b[i]'hi').2) := by
      obtain ⟨u1, u2⟩ := hu
      rw [List.getElem?_map, g1] at u1
      rw [List.getElem?_map, g2] at u2
      simp at u1 u2
      exact Prod.ext u1.symm u2.symm
    subst eu
    have k1 := a4 i _ _ _ g1 s1
    have k2 := b4 i _ _ _ g2 s2
    obtain ⟨va, ha'⟩ := D.kid_rk op (List.mem_of_getElem? s1)
    obtain ⟨vb, hb'⟩ := D.kid_rk oq (List.mem_of_getElem? s2)
    have z1 := D.prL_mem (List.mem_of_getElem? hp)
    have z2 := D.prL_mem (List.mem_of_getElem? hq)
    have kz : ∀ {ch v : Bool} {s : Nat} {x : D.Nd} {k : List D.Nd}, D.okNd ch (D.Rk s) v x → x.ks[i]? = some k → (D.prL k).length ≤ (D.prN x).length := fun {ch v s x k} ox hk => by
      rcases ox with ⟨_, _, _, h, _⟩ | ⟨h, _⟩ | ⟨_, _, _, h, _⟩ | ⟨hk', _, _, _, hll', _⟩
      · rw [h] at hk; simp at hk
      · rw [h] at hk; simp [D.Nd.ks] at hk
      · rw [h] at hk; simp at hk
      · exact Nat.le_trans (D.prC_at hll' hk) (D.prN_cas hk')
    have y1 := kz op s1
    have y2 := kz oq s2
    cases r with
    | zero => exact k1.elim
    | succ r =>
      cases r' with
      | zero => exact k2.elim
      | succ r' => exact ⟨r, r', va, vb, k1, k2, ha', hb', by omega, by omega⟩
  have hal := kps_all2 (w := w) ca cb _ _ (by simp [hca]) (by simp [hcb]) (by simp [hll]) hit
  have hT : (kpvs ca cb).length ≤ 1000 := by
    rw [hal.len]
    have e1 := D.wts_len (D.kps (vs.map (·.1)) (us.map (·.1)))
    have e2 := D.kps_wt (m := us.map (·.1)) hwx
    omega
  have hlv : (vs.map (·.1)).length = vs.length := by simp
  have hlu : (us.map (·.1)).length = vs.length := by simp [hll]
  rw [hlv] at hr ⊢
  rw [show (us.map (·.1)).length = us.length by simp, ← hll] at hs
  rw [hlu]
  refine (within_row A B vs.length c d (nvs vs) (nvs us) ca cb W (hr.row.on hW) (hs.row.on hW) hca (by rw [hcb, hll]) hT hn fun j y y' a b hj hj' ha hb => ?_).mono ?_
  · obtain ⟨⟨p', s⟩, ev⟩ : ∃ a, vs[j]? = some a := ⟨_, List.getElem?_eq_getElem (by have := (List.getElem?_eq_some_iff.1 ha).1; omega)⟩
    obtain ⟨⟨q', s'⟩, eu⟩ : ∃ a, us[j]? = some a := ⟨_, List.getElem?_eq_getElem (by have := (List.getElem?_eq_some_iff.1 hb).1; omega)⟩
    have f1 := nvs_at ev
    rw [hj] at f1
    injection f1 with f1
    have f2 := nvs_at eu
    rw [hj'] at f2
    injection f2 with f2
    obtain ⟨a0, a1, a2, a3, a4⟩ := pa j a ha p' s ev
    obtain ⟨b0, b1, b2, b3, b4⟩ := pb j b hb q' s' eu
    have hw : p'.ws = q'.ws := by have := hd_at hh (vs_list rfl ev) (vs_list rfl eu); simp only [D.hd, Prod.mk.injEq] at this; exact this.2.2.2
    have l1 := a0.len
    have l2 := b0.len
    rw [ccs_len] at l1 l2
    have h1 := congrArg List.length a1
    have h2 := congrArg List.length b1
    rw [hw] at h1
    simp at h1 h2
    rw [f1, f2]
    exact ⟨a0.on hW, b0.on hW, by show s.m = s'.m; omega, a3, b3⟩
  · rintro e w' ⟨A', c', rfl, hO, hB⟩
    exact ⟨A', c', kpvs ca cb, rfl, hO.to_row, hal, hB⟩
end Go.Proofs.YtohhfcfnclafdaaGreatDoor
