/-
  What the closures of the reader's calls read of the bytes that are left.
-/
import Derived.Test.YtelifoagnheioaaWords
import Derived.Lib.BufferRead
import Derived.Laws.IdiomStrings
set_option linter.unusedVariables false
set_option maxRecDepth 100000
set_option linter.unusedSimpArgs false
namespace Go.Proofs.Ytelifoagnheioaa
open Go.RowKit
attribute [local go_sem ↓] Go.wp_at_zero Go.wp_at_succ

section
variable (A : Option Addr) (n c : Nat) (l : List Nat) (x k e : Nat) (w : World)
theorem read_small_is (ha : Row w A n (bys l)) (hl : Kept (∀ b ∈ l, b < 256)) (hn : n ≤ 1000000) (hr : Kept (D.readS l = (x, k, e))) :
    Calls Try.prog 71 #[.slice A n c] w fun e' w' => e' = .returned (.tuple #[.int .u64 x, .int .i64 k, .int .i64 e]) ∧ w = w' := read_small A n c l x k e w ha hl hn hr
theorem ref_read_small_is (ha : Row w A n (bys l)) (hl : Kept (∀ b ∈ l, b < 256)) (hn : n ≤ 1000000) (hr : Kept (D.readS l = (x, k, e))) :
    Calls Try.prog 50 #[.slice A n c] w fun e' w' => e' = .returned (.tuple #[.int .u64 x, .int .i64 k, .int .i64 e]) ∧ w = w' := ref_read_small A n c l x k e w ha hl hn hr
end
/-- Bytes as a text. -/
theorem str_run (W : World) (A : Option Addr) (n c : Nat) (l : List Nat) (h : Row W A n (bys l)) (hl : ∀ b ∈ l, b < 256) :
    (convert 23 9 (.slice A n c)).run Try.prog W = .ok (.string (D.sb l)) W := by
  have hlen := h.len
  rw [bys_len] at hlen
  rcases A with _ | ad
  · have : l = [] := by
      rcases Nat.eq_zero_or_pos n with h0 | h0
      · exact List.eq_nil_of_length_eq_zero (by omega)
      · obtain ⟨ad, e, _⟩ := h.to h0
        cases e
    subst this
    have : n = 0 := by simpa using hlen.symm
    subst this
    exact Lib.run_convert_nil_bytes W _ _ 5 c Try.underlying23 Try.underlying5 Try.underlying9
  · have hr := run_convert_bytes_back (P := Try.prog) W 23 9 5 ad c (l.map UInt8.ofNat) Try.underlying23 Try.underlying5 Try.underlying9 (fun j hj => by
      have hj' : j < l.length := by simpa using hj
      have hq : l[j]? = some l[j] := List.getElem?_eq_getElem hj'
      obtain ⟨ad', e, hc⟩ := h.cell (bys_at hq)
      injection e with e
      subst e
      rw [hc]
      have := hl _ (List.getElem_mem hj')
      simp
      omega)
    rw [List.length_map, hlen] at hr
    exact hr
/-- A slice cut at both ends. -/
theorem mid_run_b (A : Option Addr) (n c lo hi : Nat) (y z : Int) (hy : y = lo) (hz : z = hi) (h1 : lo ≤ hi) (h2 : hi ≤ n) (h3 : n ≤ c) :
    ∃ A1, (∀ W, (Instr.slice 23 (.slice A n c) (some (.int .i64 y)) (some (.int .i64 z)) none).run Try.prog W = .ok (.slice A1 (hi - lo) (c - lo)) W) ∧ ∀ W xs, Row W A n xs → Row W A1 (hi - lo) ((xs.drop lo).take (hi - lo)) := by
  subst hy hz
  refine ⟨if c = lo then A else A.map (·.add lo), fun W => ?_, fun W xs h => (h.cut (by omega) h3).take (by omega)⟩
  rw [run_slice_lh W 23 A n c (by kernel_rfl) .i64 .i64 lo hi (by omega) (by omega) (by omega)]
  simp [Result.andThen, sliced, go_sem]

/-- A closure reads this of the bytes that are left. -/
def Got (v : Value) (k e : Nat) (w : World) (en : Ending) (w' : World) : Prop := en = .returned (.tuple #[v, .int .i64 k, .int .i64 e]) ∧ ∃ q, w' = w.drewN q
theorem got_of {v v' : Value} {k e : Nat} {a b : Int} {w w' : World} {q : Nat} (hb : b = e) (hv : v' = v ∧ a = k) (h : w' = w.drewN q) : Got v k e w (.returned (.tuple #[v', .int .i64 a, .int .i64 b])) w' := ⟨by rw [hb, hv.1, hv.2], q, h⟩
section
variable (B : Option Addr) (m d g : Nat) (l : List Nat) (w : World)
set_option maxRecDepth 20000 in
set_option maxHeartbeats 1000000 in
theorem fixed_cl (z : Nat) (hz : z ≤ 8) (hr : Row w B m (bys l)) (hl : Kept (∀ b ∈ l, b < 256)) (hmd : m ≤ d) (hd : d ≤ 9223372036854775807) (hm : m ≤ 1000000) (hc : w.cell? ⟨g, 0, none⟩ = some (.int .i64 z)) :
    Calls Try.prog 69 #[.slice B m d, .pointer (some ⟨g, 0, none⟩)] w (Got (.int .u64 (D.fix z l).x) (D.fix z l).k (D.fix z l).e w) := by
  have hlen := hr.len
  rw [bys_len] at hlen
  by_cases hs : m < z
  · have HF : Kept (D.fix z l = ⟨0, [], 0, 4⟩) := ⟨by rw [D.fix, if_pos (by omega)]⟩
    clear hlen hr
    go_enter Try.func69, Try.ntmps69
    go_wp2
    go_ret3
    exact got_of (q := 0) (by rw [HF.out]; rfl) (by rw [HF.out]; exact ⟨rfl, rfl⟩) rfl
  · have HF : Kept (D.fix z l = ⟨D.val (l.take z), [], z, 0⟩) := ⟨by rw [D.fix, if_neg (by omega)]⟩
    obtain ⟨A2, hcut2, hR2⟩ := upto_run_b B m d z z rfl (by omega)
    have hrow2 := hR2 w _ hr (by omega)
    rw [bys_take] at hrow2
    have HM := Lib.hid hlen
    clear hR2 hlen hr
    go_enter Try.func69, Try.ntmps69
    go_wp2_with fail
    go_loopw [6, 17] (fun t i wr => ∃ k v : Nat, k ≤ z ∧ i = .int .i64 k ∧ t = .int .u64 v ∧ Kept (D.val (l.take k) = v) ∧ wr = w) (fun _ i _ => z - (intOf i).toNat)
    case atStart => exact ⟨0, 0, Nat.zero_le _, rfl, rfl, ⟨rfl⟩, rfl⟩
    case round =>
      obtain ⟨k, v, hk, rfl, rfl, HK, rfl⟩ := hrel
      by_cases hlt : k < z
      · obtain ⟨y, hy, hyl⟩ := at_lt (l := l) (i := k) (by rw [HM.out]; omega)
        have hy256 := hl.out y hyl
        have hv56 : v < 72057594037927936 := by rw [← HK.out]; exact val_bd hl.out (by omega)
        have HN : Kept (D.val (l.take (k + 1)) = v * 256 + y) := ⟨by rw [val_take hy, HK.out]⟩
        have hy2 : (l.take z)[k]? = some y := by rw [List.getElem?_take, if_pos hlt]; exact hy
        obtain ⟨ad2, rfl, cz⟩ := hrow2.cell (bys_at hy2)
        have e1 : bits .or .u64 ((v : Int) * 256) (y : Int) = ((v * 256 + y : Nat) : Int) := by
          rw [show (v : Int) * 256 = ((v * 256 : Nat) : Int) by omega, u64_or_nat _ _ (by omega) (by omega), nat_join 8 _ _ (by omega) (by omega)]
        clear HK hy hyl hy2
        go_wp2
        go_roundw
        case rel => exact ⟨k + 1, v * 256 + y, by omega, by go_num, rfl, HN, trivial⟩
        case measure => simp [intOf]; omega
      · have hvx : Kept (v = D.val (l.take z)) := ⟨by rw [← HK.out, show k = z by omega]⟩
        clear HK
        go_wp2_with fail
        go_quiet (fail)
        go_wp2
        go_ret3
        exact got_of (by rw [HF.out]; rfl) (by rw [hvx.out, HF.out]; exact ⟨rfl, rfl⟩) rfl

set_option maxHeartbeats 400000 in
theorem number_rcl (mo : Nat) (hmo : mo < 18446744073709551616) (hr : Row w B m (bys l)) (hl : Kept (∀ b ∈ l, b < 256)) (hm : m ≤ 1000000) (hc : w.cell? ⟨g, 0, none⟩ = some (.int .u64 mo)) :
    Calls Try.prog 70 #[.slice B m d, .pointer (some ⟨g, 0, none⟩)] w (Got (.int .u64 (D.readS l).1) (D.readS l).2.1 (D.num mo l).e w) := by
  rcases hR : D.readS l with ⟨x, k, e⟩
  have cR := Lib.hid (read_small_is B m d l x k e w hr hl hm ⟨hR⟩)
  have hx := D.readS_bd hl.out hR
  by_cases he : e = 0
  · subst he
    have hk := D.readS_just hl.out hR
    have hlen := hr.len
    rw [bys_len] at hlen
    have hk2 : k ≤ 1000000 := by omega
    have cR : Hid (Calls Try.prog 71 #[.slice B m d] w fun e' w' => e' = .returned (.tuple #[.int .u64 x, .int .i64 k, .int .i64 0]) ∧ w = w') := cR
    by_cases h5 : mo < x
    · have HF : Kept (D.num mo l = ⟨0, [], 0, 5⟩) := ⟨by simp [D.num, hR, h5]⟩
      clear hR hk hlen
      go_enter Try.func70, Try.ntmps70
      go_wp2_with (go_at_call 71; (with_reducible refine cR.out.mono ?_); rintro e' w1 ⟨rfl, rfl⟩)
      go_ret3
      exact got_of (q := 0) (by rw [HF.out]; rfl) ⟨rfl, rfl⟩ rfl
    · have HF : Kept (D.num mo l = ⟨x, [], k, 0⟩) := ⟨by simp [D.num, hR, h5]⟩
      clear hR hk hlen
      go_enter Try.func70, Try.ntmps70
      go_wp2_with (go_at_call 71; (with_reducible refine cR.out.mono ?_); rintro e' w1 ⟨rfl, rfl⟩)
      go_ret3
      exact got_of (q := 0) (by rw [HF.out]; rfl) ⟨rfl, rfl⟩ rfl
  · have HF : Kept (D.num mo l = ⟨0, [], 0, e⟩) := ⟨by simp [D.num, hR, he]⟩
    have hb : ((e : Int) == 0) = false := by simp; exact he
    have HE : Kept (e ≠ 0) := ⟨he⟩
    clear hR he
    go_enter Try.func70, Try.ntmps70
    go_wp2_with (go_at_call 71; (with_reducible refine cR.out.mono ?_); rintro e' w1 ⟨rfl, rfl⟩)
    go_ret3
    exact got_of (q := 0) (by rw [HF.out]) ⟨rfl, rfl⟩ rfl

set_option maxRecDepth 20000 in
set_option maxHeartbeats 1000000 in
theorem text_rcl (mo : Int) (h1 : -9223372036854775808 ≤ mo) (h2 : mo ≤ 9223372036854775807) (hr : Row w B m (bys l)) (hl : Kept (∀ b ∈ l, b < 256)) (hmd : m ≤ d) (hd : d ≤ 9223372036854775807) (hm : m ≤ 1000000) (hc : w.cell? ⟨g, 0, none⟩ = some (.int .i64 mo)) :
    Calls Try.prog 73 #[.slice B m d, .pointer (some ⟨g, 0, none⟩)] w (Got (.string (D.sb (D.txt mo.toNat l).s)) (D.txt mo.toNat l).k (D.txt mo.toNat l).e w) := by
  obtain ⟨y, hy⟩ : ∃ y : Nat, mo.toNat = y := ⟨_, rfl⟩
  have hmx : ∀ ts t W, (Builtin.max_ ts t #[.int .i64 mo, .int .i64 0]).run Try.prog W = .ok (.int .i64 (y : Int)) W := by
    intro ts t W
    rw [run_max_int2]
    congr 2
    split <;> omega
  have hy2 : y ≤ 9223372036854775807 := by omega
  rw [hy]
  clear hy
  rcases hR : D.readS l with ⟨x, k, e⟩
  have cR := Lib.hid (read_small_is B m d l x k e w hr hl hm ⟨hR⟩)
  have hx := D.readS_bd hl.out hR
  have hlen := hr.len
  rw [bys_len] at hlen
  by_cases he : e = 0
  · subst he
    have hk := (D.readS_just hl.out hR).2.1
    have hk2 : k ≤ m := by omega
    have cR : Hid (Calls Try.prog 71 #[.slice B m d] w fun e' w' => e' = .returned (.tuple #[.int .u64 x, .int .i64 k, .int .i64 0]) ∧ w = w') := cR
    by_cases h5 : y < x
    · have HF : Kept (D.txt y l = ⟨0, [], 0, 2⟩) := ⟨by simp [D.txt, hR, h5]⟩
      clear hR hk hlen
      go_enter Try.func73, Try.ntmps73
      go_wp2_with (go_at_call 71; (with_reducible refine cR.out.mono ?_); rintro e' w1 ⟨rfl, rfl⟩)
      go_ret3
      exact got_of (q := 0) (by rw [HF.out]; rfl) (by rw [HF.out]; exact ⟨rfl, rfl⟩) rfl
    · by_cases h6 : m - k < x
      · have HF : Kept (D.txt y l = ⟨0, [], 0, 4⟩) := ⟨by simp [D.txt, hR, h5, hlen, h6]⟩
        clear hR hk hlen
        have h7 : (m : Int) - (k : Int) < (x : Int) := by omega
        go_enter Try.func73, Try.ntmps73
        go_wp2_with (go_at_call 71; (with_reducible refine cR.out.mono ?_); rintro e' w1 ⟨rfl, rfl⟩)
        go_ret3
        exact got_of (q := 0) (by rw [HF.out]; rfl) (by rw [HF.out]; exact ⟨rfl, rfl⟩) rfl
      · have HF : Kept (D.txt y l = ⟨0, (l.drop k).take x, k + x, 0⟩) := ⟨by simp [D.txt, hR, h5, hlen, h6]⟩
        obtain ⟨A1, hcut, hrow⟩ := mid_run_b B m d k (k + x) (k : Int) ((k : Int) + (x : Int)) rfl (by omega) (by omega) (by omega) hmd
        have hrow := hrow w _ hr
        rw [show k + x - k = x by omega] at hrow hcut
        have hstr := str_run w A1 x (d - k) ((l.drop k).take x) (by rw [bys_drop, bys_take] at hrow; exact hrow) (fun b hb => hl.out b (List.mem_of_mem_drop (List.mem_of_mem_take hb)))
        have h7 : ¬ (m : Int) - (k : Int) < (x : Int) := by omega
        have h8 : x ≤ 1000000 := by omega
        clear hR hk hlen hrow
        go_enter Try.func73, Try.ntmps73
        go_wp2_with (go_at_call 71; (with_reducible refine cR.out.mono ?_); rintro e' w1 ⟨rfl, rfl⟩)
        go_ret3
        exact got_of (q := 0) (by rw [HF.out]; rfl) (by rw [HF.out]; exact ⟨rfl, by simp⟩) rfl
  · have HF : Kept (D.txt y l = ⟨0, [], 0, e⟩) := ⟨by simp [D.txt, hR, he]⟩
    have hb : ((e : Int) != 0) = true := by simp; exact he
    have HE : Kept (e ≠ 0) := ⟨he⟩
    clear hR he hlen
    go_enter Try.func73, Try.ntmps73
    go_wp2_with (go_at_call 71; (with_reducible refine cR.out.mono ?_); rintro e' w1 ⟨rfl, rfl⟩)
    go_ret3
    exact got_of (q := 0) (by rw [HF.out]) (by rw [HF.out]; exact ⟨rfl, rfl⟩) rfl
end
end Go.Proofs.Ytelifoagnheioaa
