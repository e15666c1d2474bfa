/-
  The bytes of fields, as the document's answer makes them.
-/
import Derived.Test.YtnihkpcfnkimoaaClos
import Derived.Laws.IdiomStrings
set_option linter.unusedVariables false
set_option linter.unusedSimpArgs false
namespace Go.Proofs.Ytnihkpcfnkimoaa
open Go.RowKit
attribute [local go_sem ↓] Go.wp_at_zero Go.wp_at_succ

set_option maxHeartbeats 400000 in
theorem ref_high (x z : Nat) (w : World) (hx : x < 18446744073709551616) (hz : z ≤ 8) :
    Calls Try.prog 51 #[.int .u64 x, .int .i64 z] w (Made w (D.be x z)) := by
  go_enter Try.func51, Try.ntmps51
  go_wp2
  go_loopw [0, 5, 6] (fun t o i wr => ∃ (k j c : Nat) (A : Option Addr), k ≤ z ∧ i = .int .i64 k ∧ t = .int .u64 ((x / 256 ^ k : Nat) : Int) ∧ o = .slice A j c ∧ Own w.heap.size wr A j c (D.be x k) ∧ Below w.heap.size w wr) (fun _ _ i _ => z - (intOf i).toNat)
  case atStart => exact ⟨0, 0, 0, none, Nat.zero_le _, rfl, by simp, rfl, Own.nil (Nat.le_refl _), Below.refl _ _⟩
  case round =>
    obtain ⟨k, j, c, A, hk, rfl, rfl, rfl, HO, hbel⟩ := hrel
    have hlen := HO.len
    rw [D.be_len] at hlen
    by_cases hlt : k < z
    · have hq : x / 256 ^ k < 18446744073709551616 := Nat.lt_of_le_of_lt (Nat.div_le_self _ _) hx
      have HN : Kept (x / 256 ^ (k + 1) = x / 256 ^ k / 256) := ⟨by rw [Nat.pow_succ, Nat.div_div_eq_div_mul]⟩
      have HB : Kept (D.be x (k + 1) = (x / 256 ^ k % 256) :: D.be x k) := ⟨rfl⟩
      obtain ⟨y, hy⟩ : ∃ y, x / 256 ^ k = y := ⟨_, rfl⟩
      rw [hy] at hq HN HB ⊢
      obtain ⟨b, hb⟩ : ∃ b, y % 256 = b := ⟨_, rfl⟩
      rw [hb] at HB
      have eb : (y : Int) % 256 = (b : Int) := by omega
      have hb2 : b < 256 := by omega
      clear hy hb
      have q1 : 1 + j ≤ 1000000 := by omega
      have q2 := Own.lit (base := w.heap.size) (w := wr) (z := b) (b := b) (by have := hbel.size; exact this) rfl
      have q3 := HO.to_row.alloc (.cells #[.int .u8 (b : Int)] 5)
      clear hlen
      go_wp2_with (at_builtin; refine app _ rfl (.tmp 15) (.tmp 16) (by rfl) (by rfl) q2 (by rfl) q3 q1 ?_; intro A1 c1 w1 ho1 hg1 hat1)
      go_roundw
      case rel => exact ⟨k + 1, 1 + j, c1, A1, by omega, by go_num, by rw [HN.out]; go_num, rfl, by rw [HB.out]; exact ho1, from_below hbel hg1 (fun i hi => by have := hbel.size; simp [Value.ownBlock] at hi; omega)⟩
      case measure => simp [intOf]; omega
    · have e : k = z := by omega
      subst e
      clear hlen
      go_wp2
      go_ret
      exact made HO hbel
theorem ref_high8 (x : Nat) (w : World) (hx : x < 18446744073709551616) : Calls Try.prog 51 #[.int .u64 x, .int .i64 8] w (Made w (D.be x 8)) := ref_high x 8 w hx (by omega)
theorem ref_high2 (x : Nat) (w : World) (hx : x < 18446744073709551616) : Calls Try.prog 51 #[.int .u64 x, .int .i64 2] w (Made w (D.be x 2)) := ref_high x 2 w hx (by omega)

theorem row_of_text (w : World) (s : ByteArray) (cap : Nat) (t : TypeId) (fr : Nat × Nat) : Row (w.alloc (.cells (bytesRow s cap) t fr)) (some ⟨w.heap.size, 0, none⟩) s.size (bys (D.ns s)) :=
  ⟨by rw [bys_len, D.ns_len], fun _ => ⟨_, rfl, by simp, fun j u hu => by
    have hj : j < s.data.size := by
      have := (List.getElem?_eq_some_iff.1 hu).1
      rw [bys_len, D.ns_len] at this
      exact this
    rw [World.news_of_block (heap_alloc_new w _) j u]
    rw [Array.getElem?_toList, bytesRow_at s cap j hj]
    simp [bys, D.ns] at hu
    obtain ⟨a, ha, rfl⟩ := hu
    have : s.data[j]? = some s.data[j] := Array.getElem?_eq_getElem hj
    rw [this] at ha
    injection ha with ha
    rw [ha]⟩⟩
theorem own_base {b1 b2 n c : Nat} {w : World} {A : Option Addr} {l : List Nat} (h : Own b1 w A n c l) (hb : b2 ≤ b1) : Own b2 w A n c l := by
  refine ⟨⟨h.row.1, ?_⟩, Nat.le_trans hb h.base⟩
  rcases h.row.2 with hz | ⟨g, cap, cur, e, hg, r⟩
  · exact .inl hz
  · exact .inr ⟨g, cap, cur, e, Nat.le_trans hb hg, r⟩

theorem wp_app (w : World) {o : Oper} {a : Act} {K : Act → World → Prop} {Q : Exit → Act → World → Prop} (s x : Operand)
    (hop : o.op = .call { callee := .builtin .append, args := #[s, x], argTypes := #[30, 30] })
    {base : Nat} {A B : Option Addr} {n c m d : Nat} {l k : List Nat} (hs : a.eval s = .slice A n c) (ho : Own base w A n c l) (hx : a.eval x = .slice B m d) (hr : Row w B m (bys k)) (h63 : n + m ≤ 1000000)
    (h : ∀ A' c' w', Own base w' A' (n + m) c' (l ++ k) → w.grownBy w' (Value.slice A n c).ownBlock → K (a.put o.dst (.slice A' (n + m) c')) w') : o.wp Try.prog a w K Q := by
  obtain ⟨A', c', w', hrun, h2, h3, h4⟩ := run_app w o.type ho hr h63 (d := d)
  unfold Oper.wp execOp
  simp only [hop, resolve, invoke, builtin, Sem.run_bind, Sem.run_pure, Result.andThen_ok, List.map_toArray, List.map_cons, List.map_nil, hs, hx, hrun]
  exact h A' c' w' h2 h3
theorem keep_da {w : World} {o : Obj} {p : Addr} {v : Value} (hc : w.cell? p = some v) : (w.alloc o).drew.cell? p = some v := (World.cell?_alloc_lt w o p (World.block_lt_of_cell? w p hc)).trans hc
theorem keep_dda {w : World} {o : Obj} {p : Addr} {v : Value} (hc : w.cell? p = some v) : (w.alloc o).drew.drew.cell? p = some v := keep_da hc
theorem keep_own {w0 w w' : World} {n c : Nat} {A : Option Addr} {l : List Nat} {p : Addr} {v u : Value} {b : Nat} (ho : Own b w A n c l) (hb : w0.heap.size ≤ b) (hg : w.grownBy w' (Value.slice A n c).ownBlock) (hc0 : w0.cell? p = some u) (hc : w.cell? p = some v) : w'.cell? p = some v := by
  have h1 := World.block_lt_of_cell? w0 p hc0
  refine (hg.cell_far p (World.block_lt_of_cell? w p hc) fun e => ?_).trans hc
  have := ho.block_le _ e.symm
  omega
section
variable {P : Program} {ops : Array Oper} {Q : Exit → Act → World → Prop} {md : Region.Mode} {S : World → Prop}
/-- Number i only computes, or reads what S tells. -/
theorem takeS (i : Nat) (d : Option Tmp) (v : Value) {fuel : Nat} {listed : Array Bool} {a : Act} {w : World} (hd : (ops[i]?).map (·.dst) = some d)
    (hs : Region.noSelect ops = true) (hf : Region.free md ops listed i = true) (hr : (Region.ready md ops listed).contains i = true)
    (hQ : ∀ c a w, Q (.panic c) (a.put d v) w → Q (.panic c) a w) (hw : (ops[i]?).map (fun o => Region.wanted o (yielded ops a.tmps)) = some true)
    (hy : ∀ o, ops[i]? = some o → ∀ w, S w → (execOp a.eval o).run P w = .ok (.value v) w) (hS : S w)
    (h : wpAnyH P md ops Q S fuel (listed.setIfInBounds i true) (a.put d v) w) : wpAnyH P md ops Q S (fuel + 1) listed a w := by
  cases ho : ops[i]? with
  | none => rw [ho] at hd; cases hd
  | some o =>
    rw [ho] at hd hw
    simp only [Option.map_some, Option.some.injEq] at hd hw
    subst hd
    exact wpAnyH_take ho hs hf hr hQ (.inl ⟨hw, fun w hS => hy o ho w hS⟩) hS h
/-- Number i is the only one that may come up. -/
theorem nextS (i : Nat) {fuel : Nat} {listed : Array Bool} {a : Act} {w : World} (hr : Region.ready md ops listed = [i])
    (hw : (ops[i]?).map (fun o => Region.wanted o (yielded ops a.tmps)) = some true)
    (h : ∀ o, ops[i]? = some o → ∀ K : Act → World → Prop, Shut (∀ a w, S w → (S w → wpAnyH P md ops Q S fuel (listed.setIfInBounds i true) a w) → K a w) → Oper.wp P o a w K Q) : wpAnyH P md ops Q S (fuel + 1) listed a w := by
  cases ho : ops[i]? with
  | none => rw [ho] at hw; cases hw
  | some o =>
    rw [ho] at hw
    simp only [Option.map_some, Option.some.injEq] at hw
    refine wpAnyH_ready hr (by simp) (AllReadyH.cons ho (fun K hK => ?_) AllReadyH.nil)
    rw [if_pos hw]
    exact h o ho K hK
/-- Two may come up. -/
theorem forkS (i j : Nat) {fuel : Nat} {listed : Array Bool} {a : Act} {w : World} (hr : Region.ready md ops listed = [i, j])
    (hwi : (ops[i]?).map (fun o => Region.wanted o (yielded ops a.tmps)) = some true) (hwj : (ops[j]?).map (fun o => Region.wanted o (yielded ops a.tmps)) = some true)
    (hi : ∀ o, ops[i]? = some o → ∀ K : Act → World → Prop, Shut (∀ a w, S w → (S w → wpAnyH P md ops Q S fuel (listed.setIfInBounds i true) a w) → K a w) → Oper.wp P o a w K Q)
    (hj : ∀ o, ops[j]? = some o → ∀ K : Act → World → Prop, Shut (∀ a w, S w → (S w → wpAnyH P md ops Q S fuel (listed.setIfInBounds j true) a w) → K a w) → Oper.wp P o a w K Q) : wpAnyH P md ops Q S (fuel + 1) listed a w := by
  cases ho : ops[i]? with
  | none => rw [ho] at hwi; cases hwi
  | some o =>
    cases hp : ops[j]? with
    | none => rw [hp] at hwj; cases hwj
    | some p =>
      rw [ho] at hwi
      rw [hp] at hwj
      simp only [Option.map_some, Option.some.injEq] at hwi hwj
      refine wpAnyH_ready hr (by simp) (AllReadyH.cons ho (fun K hK => ?_) (AllReadyH.cons hp (fun K hK => ?_) AllReadyH.nil))
      · rw [if_pos hwi]
        exact hi o ho K hK
      · rw [if_pos hwj]
        exact hj p hp K hK
end
theorem fin_grown {w w2 wx : World} {b n c : Nat} {A : Option Addr} {l : List Nat} (h : Below w.heap.size w wx) (ho : Own b wx A n c l) (hb : w.heap.size ≤ b) (hg : wx.grownBy w2 (Value.slice A n c).ownBlock) : Below w.heap.size w w2 :=
  h.grown hg h.size fun k hk => Nat.le_trans hb (ho.block_le k hk)
theorem below_alloc_ (w : World) (o : Obj) : Below w.heap.size w (w.alloc o) := (Below.refl _ _).alloc (Nat.le_refl _) o
set_option maxHeartbeats 1000000 in
theorem ref_bytes (f : D.Fd) (w : World) (hf : f.ok) :
    Calls Try.prog 33 #[.agg #[.int .i64 f.k, .int .u64 f.n, .string f.s]] w (Made w (D.enc f)) := by
  have hcs := hf.cases
  have hx := hf.n
  have hs := hf.s
  obtain ⟨k, x, t⟩ := f
  simp only at hcs hx hs ⊢
  rcases hcs with rfl | rfl | rfl | rfl | rfl
  · rw [D.enc0 rfl]
    obtain ⟨y, hy⟩ : ∃ y, x % 256 = y := ⟨_, rfl⟩
    have e8 : (x : Int) % 256 = (y : Int) := by omega
    simp only [hy]
    have hy2 : y < 256 := by omega
    clear hy
    have HO := Own.lit (base := w.heap.size) (w := w.alloc (.cells #[.int .i64 0, .int .u64 x, .string t] 29)) (z := y) (b := y) (by simp) rfl
    go_enter Try.func33, Try.ntmps33
    go_wp2
    go_ret
    simp at HO
    exact made HO (((Below.refl _ _).alloc (Nat.le_refl _) _).alloc (by simp) _)
  · rw [D.enc1 rfl]
    obtain ⟨y, hy⟩ : ∃ y, x % 65536 = y := ⟨_, rfl⟩
    have e8 : (x : Int) % 65536 = (y : Int) := by omega
    simp only [hy]
    have hy2 : y < 18446744073709551616 := by omega
    clear hy
    have cH := Lib.hid (fun W => ref_high2 y W hy2)
    go_enter Try.func33, Try.ntmps33
    go_wp2_with (go_at_call 51; (with_reducible refine (cH.out _).mono ?_); rintro e w1 ⟨A1, c1, rfl, ho1, hb1⟩)
    go_ret
    exact made (own_base ho1 (by simp)) (((Below.refl _ _).alloc (Nat.le_refl _) _).trans (hb1.mono (by simp)))
  · rw [D.enc2 rfl]
    have cH := Lib.hid (fun W => ref_high8 x W hx)
    go_enter Try.func33, Try.ntmps33
    go_wp2_with (go_at_call 51; (with_reducible refine (cH.out _).mono ?_); rintro e w1 ⟨A1, c1, rfl, ho1, hb1⟩)
    go_ret
    exact made (own_base ho1 (by simp)) (((Below.refl _ _).alloc (Nat.le_refl _) _).trans (hb1.mono (by simp)))
  · rw [D.enc3 rfl]
    have cH := Lib.hid (fun W => ref_small x W hx)
    go_enter Try.func33, Try.ntmps33
    go_wp2_with (go_at_call 52; (with_reducible refine (cH.out _).mono ?_); rintro e w1 ⟨A1, c1, rfl, ho1, hb1⟩)
    go_ret
    exact made (own_base ho1 (by simp)) (((Below.refl _ _).alloc (Nat.le_refl _) _).trans (hb1.mono (by simp)))
  · rw [D.enc4 rfl]
    have cH := Lib.hid (fun W => ref_small t.size W (by omega))
    have hw : IntKind.u64.wrap (t.size : Int) = t.size := by rw [IntKind.wrap_u64]; omega
    have hl := text_len (s := t) (by omega)
    have hc := ((Blk.new w 29 #[.int .i64 4, .int .u64 (x : Int), .string t]).c 2).trans rfl
    have hc00 := ((Blk.new w 29 #[.int .i64 4, .int .u64 (x : Int), .string t]).c 0).trans rfl
    have hb0 := below_alloc_ w (.cells #[.int .i64 4, .int .u64 (x : Int), .string t] 29)
    obtain ⟨w0, hw0⟩ : ∃ w0, w.alloc (.cells #[.int .i64 4, .int .u64 (x : Int), .string t] 29) = w0 := ⟨_, rfl⟩
    have hcv : ∀ W, (convert 9 30 (.string t)).run Try.prog W = .ok (.slice (some ⟨W.heap.size, 0, none⟩) t.size (grownCap W t.size 0 5)) (W.drew.alloc (.cells (bytesRow t (grownCap W t.size 0 5)) 5 ((bytesRow t (grownCap W t.size 0 5)).size, (bytesRow t (grownCap W t.size 0 5)).size + 1))) :=
      fun W => run_bytes_of_string W _ _ 5 t Try.underlying9 Try.underlying30 Try.underlying5
    rw [hw0] at hc hb0 hc00
    have hc : w0.cell? ⟨w.heap.size, 2, none⟩ = some (.string t) := hc
    go_enter Try.func33, Try.ntmps33
    go_wp2_with fail
    clear hw0
    refine wp_region_noPanic ?_
    refine wp_region_held_drew (S := fun W => W.cell? ⟨w.heap.size, 2, none⟩ = some (.string t)) (by kernel_rfl) hc (fun _ => ?_)
    refine takeS 0 (some 28) ?va0 (by kernel_rfl) (by kernel_rfl) (by kernel_rfl) (by kernel_rfl) (fun _ _ _ h => h) (by rfl) ?hya0 hc ?resta0
    case hya0 => (intro o ho W hW; simp only [List.getElem?_toArray, List.getElem?_cons_succ, List.getElem?_cons_zero, Option.some.injEq] at ho; subst ho; (try dsimp only at hW); go_simp; try rfl)
    try simp only [Act.put, List.setIfInBounds_toArray, List.set_cons_zero, List.set_cons_succ]
    refine takeS 1 (some 29) ?va1 (by kernel_rfl) (by kernel_rfl) (by kernel_rfl) (by kernel_rfl) (fun _ _ _ h => h) (by rfl) ?hya1 hc ?resta1
    case hya1 => (intro o ho W hW; simp only [List.getElem?_toArray, List.getElem?_cons_succ, List.getElem?_cons_zero, Option.some.injEq] at ho; subst ho; (try dsimp only at hW); go_simp; try rfl)
    try simp only [Act.put, List.setIfInBounds_toArray, List.set_cons_zero, List.set_cons_succ]
    refine takeS 2 (some 30) ?va2 (by kernel_rfl) (by kernel_rfl) (by kernel_rfl) (by kernel_rfl) (fun _ _ _ h => h) (by rfl) ?hya2 hc ?resta2
    case hya2 => (intro o ho W hW; simp only [List.getElem?_toArray, List.getElem?_cons_succ, List.getElem?_cons_zero, Option.some.injEq] at ho; subst ho; (try dsimp only at hW); go_simp; try rfl)
    try simp only [Act.put, List.setIfInBounds_toArray, List.set_cons_zero, List.set_cons_succ]
    refine takeS 3 (some 31) ?va3 (by kernel_rfl) (by kernel_rfl) (by kernel_rfl) (by kernel_rfl) (fun _ _ _ h => h) (by rfl) ?hya3 hc ?resta3
    case hya3 => (intro o ho W hW; simp only [List.getElem?_toArray, List.getElem?_cons_succ, List.getElem?_cons_zero, Option.some.injEq] at ho; subst ho; (try dsimp only at hW); go_simp; try rfl)
    try simp only [Act.put, List.setIfInBounds_toArray, List.set_cons_zero, List.set_cons_succ]
    refine takeS 5 (some 33) ?va5 (by kernel_rfl) (by kernel_rfl) (by kernel_rfl) (by kernel_rfl) (fun _ _ _ h => h) (by rfl) ?hya5 hc ?resta5
    case hya5 => (intro o ho W hW; simp only [List.getElem?_toArray, List.getElem?_cons_succ, List.getElem?_cons_zero, Option.some.injEq] at ho; subst ho; (try dsimp only at hW); go_simp; try rfl)
    try simp only [Act.put, List.setIfInBounds_toArray, List.set_cons_zero, List.set_cons_succ]
    refine takeS 6 (some 34) ?va6 (by kernel_rfl) (by kernel_rfl) (by kernel_rfl) (by kernel_rfl) (fun _ _ _ h => h) (by rfl) ?hya6 hc ?resta6
    case hya6 => (intro o ho W hW; simp only [List.getElem?_toArray, List.getElem?_cons_succ, List.getElem?_cons_zero, Option.some.injEq] at ho; subst ho; (try dsimp only at hW); go_simp; try rfl)
    try simp only [Act.put, List.setIfInBounds_toArray, List.set_cons_zero, List.set_cons_succ]
    refine forkS 4 7 (by kernel_rfl) (by rfl) (by rfl) (fun o ho K hK => ?_) (fun o ho K hK => ?_)
    · simp only [List.getElem?_toArray, List.getElem?_cons_succ, List.getElem?_cons_zero, Option.some.injEq] at ho; subst ho
      go_simp
      (go_at_call 52; (with_reducible refine (cH.out _).mono ?_); rintro e w1 ⟨A1, c1, rfl, ho1, hb1⟩)
      have hc1 : w1.cell? ⟨w.heap.size, 2, none⟩ = some (.string t) := cell_keep hb1 hc
      refine hK.out _ _ hc1 (fun _ => ?_)
      clear hK K
      try simp only [Act.put, List.setIfInBounds_toArray, List.set_cons_zero, List.set_cons_succ]
      refine nextS 7 (by kernel_rfl) (by rfl) (fun o ho K hK => ?_)
      simp only [List.getElem?_toArray, List.getElem?_cons_succ, List.getElem?_cons_zero, Option.some.injEq] at ho; subst ho
      go_simp
      refine hK.out _ _ (keep_da hc1) (fun _ => ?_)
      clear hK K
      try simp only [Act.put, List.setIfInBounds_toArray, List.set_cons_zero, List.set_cons_succ]
      refine nextS 8 (by kernel_rfl) (by rfl) (fun o ho K hK => ?_)
      simp only [List.getElem?_toArray, List.getElem?_cons_succ, List.getElem?_cons_zero, Option.some.injEq] at ho; subst ho
      refine wp_app _ (.tmp 32) (.tmp 35) (by rfl) (by rfl) (ho1.alloc _).drew (by rfl) (row_of_text _ _ _ _ _).drew (by omega) ?_
      intro A2 c2 w2 ho2 hg2
      have hc2 : w2.cell? ⟨w.heap.size, 2, none⟩ = some (.string t) := keep_own ((ho1.alloc _).drew) (Nat.le_refl _) hg2 hc (keep_da hc1)
      refine hK.out _ _ hc2 (fun _ => ?_)
      clear hK K
      try simp only [Act.put, List.setIfInBounds_toArray, List.set_cons_zero, List.set_cons_succ]
      refine takeS 9 (some 2) ?vb9 (by kernel_rfl) (by kernel_rfl) (by kernel_rfl) (by kernel_rfl) (fun _ _ _ h => h) (by rfl) ?hyb9 hc2 ?restb9
      case hyb9 => (intro o ho W hW; simp only [List.getElem?_toArray, List.getElem?_cons_succ, List.getElem?_cons_zero, Option.some.injEq] at ho; subst ho; (try dsimp only at hW); go_simp; try rfl)
      try simp only [Act.put, List.setIfInBounds_toArray, List.set_cons_zero, List.set_cons_succ]
      refine wpAnyH_done (by kernel_rfl) ?_ _
      refine NoPanic.normal ?_
      go_wp2
      go_ret
      have hz := hb0.size
      exact made (by simpa [D.ns_len] using own_base ho2 hz) (fin_grown (((hb0.drew.trans (hb1.mono hz)).alloc (Nat.le_trans hz hb1.size) _).drew) ((ho1.alloc _).drew) hz hg2)
    · simp only [List.getElem?_toArray, List.getElem?_cons_succ, List.getElem?_cons_zero, Option.some.injEq] at ho; subst ho
      go_simp
      refine hK.out _ _ (keep_dda hc) (fun _ => ?_)
      clear hK K
      try simp only [Act.put, List.setIfInBounds_toArray, List.set_cons_zero, List.set_cons_succ]
      refine nextS 4 (by kernel_rfl) (by rfl) (fun o ho K hK => ?_)
      simp only [List.getElem?_toArray, List.getElem?_cons_succ, List.getElem?_cons_zero, Option.some.injEq] at ho; subst ho
      go_simp
      (go_at_call 52; (with_reducible refine (cH.out _).mono ?_); rintro e w1 ⟨A1, c1, rfl, ho1, hb1⟩)
      have hc1 : w1.cell? ⟨w.heap.size, 2, none⟩ = some (.string t) := cell_keep hb1 (keep_dda hc)
      refine hK.out _ _ hc1 (fun _ => ?_)
      clear hK K
      try simp only [Act.put, List.setIfInBounds_toArray, List.set_cons_zero, List.set_cons_succ]
      refine nextS 8 (by kernel_rfl) (by rfl) (fun o ho K hK => ?_)
      simp only [List.getElem?_toArray, List.getElem?_cons_succ, List.getElem?_cons_zero, Option.some.injEq] at ho; subst ho
      refine wp_app _ (.tmp 32) (.tmp 35) (by rfl) (by rfl) ho1 (by rfl) ((row_of_text _ _ _ _ _).drew.drew.on hb1) (by omega) ?_
      intro A2 c2 w2 ho2 hg2
      have hc2 : w2.cell? ⟨w.heap.size, 2, none⟩ = some (.string t) := keep_own ho1 (by simp) hg2 hc hc1
      refine hK.out _ _ hc2 (fun _ => ?_)
      clear hK K
      try simp only [Act.put, List.setIfInBounds_toArray, List.set_cons_zero, List.set_cons_succ]
      refine takeS 9 (some 2) ?vc9 (by kernel_rfl) (by kernel_rfl) (by kernel_rfl) (by kernel_rfl) (fun _ _ _ h => h) (by rfl) ?hyc9 hc2 ?restc9
      case hyc9 => (intro o ho W hW; simp only [List.getElem?_toArray, List.getElem?_cons_succ, List.getElem?_cons_zero, Option.some.injEq] at ho; subst ho; (try dsimp only at hW); go_simp; try rfl)
      try simp only [Act.put, List.setIfInBounds_toArray, List.set_cons_zero, List.set_cons_succ]
      refine wpAnyH_done (by kernel_rfl) ?_ _
      refine NoPanic.normal ?_
      go_wp2
      go_ret
      have hz := hb0.size
      exact made (own_base ho2 (by simp; omega)) (fin_grown ((((hb0.alloc hz _).drew.drew).trans (hb1.mono (by simp; omega)))) ho1 (by simp; omega) hg2)
end Go.Proofs.Ytnihkpcfnkimoaa
