/- Packed: Txt9 Txt10 Txt11 Txt12 Txt13. -/
import Derived.Test.YtjdokmllidhapaaGreatDoorTxtA
import Derived.Test.YtjdokmllidhapaaGreatDoorRightP
import Derived.BigQuiet
namespace Go.Proofs.YtjdokmllidhapaaGreatDoor
open Go.RowKit Go.Sort

def ruleT (x : RuleD) : ByteArray := lineB [⟨#[82, 117, 108, 101]⟩, x.name, S (Lib.decDigits x.lo.toNat), toB x.lo.toNat x.hi.toNat, ⟨#[45]⟩, monB x.month, x.on, tmB x.at_ x.of, S (offV x.save), dashB x.letter]
def zonT (z : ZoneD) : ByteArray := zoneT z.name z.eras (z.eras.length - 1)
def lnkT (x : LinkD) : ByteArray := lineB [⟨#[76, 105, 110, 107]⟩, x.to_, x.name]
/-- the first k, one behind the other. -/
def catL {α : Type} (f : α → ByteArray) (l : List α) (k : Nat) : List UInt8 := ((l.take k).map fun x => (f x).data.toList).flatten
theorem catL_zero {α : Type} (f : α → ByteArray) (l : List α) : catL f l 0 = [] := rfl
theorem catL_succ {α : Type} {f : α → ByteArray} {l : List α} {k : Nat} {x : α} (h : l[k]? = some x) : catL f l (k + 1) = catL f l k ++ (f x).data.toList := by
  unfold catL
  rw [List.take_add_one, h]
  simp
theorem catL_le {α : Type} {f : α → ByteArray} {l : List α} {M : Nat} (h : ∀ x ∈ l, (f x).size ≤ M) : ∀ k, k ≤ l.length → (catL f l k).length ≤ k * M := by
  intro k
  induction k with
  | zero => intro _; simp [catL]
  | succ k ih =>
    intro hk
    obtain ⟨x, hx⟩ : ∃ x, l[k]? = some x := ⟨_, List.getElem?_eq_getElem (by omega)⟩
    have h1 := ih (by omega)
    have h2 := h x (List.mem_of_getElem? hx)
    have e : (f x).data.toList.length = (f x).size := by rw [Array.length_toList]; rfl
    rw [catL_succ hx, List.length_append, e, Nat.succ_mul]
    omega
def relL (r : RelD) : List UInt8 := catL ruleT r.rules r.rules.length ++ catL zonT r.zones r.zones.length ++ catL lnkT r.links r.links.length
def relT (r : RelD) : ByteArray := if relB r = true ∧ (relL r).length ≤ 8000 then S (relL r) else ⟨#[]⟩
theorem relT_no1 {r : RelD} (h : relB r = false) : relT r = ⟨#[]⟩ := by unfold relT; rw [if_neg (by rw [h]; simp)]
theorem relT_no2 {r : RelD} (h : ¬ (relL r).length ≤ 8000) : relT r = ⟨#[]⟩ := by unfold relT; rw [if_neg (fun e => h e.2)]
theorem relT_yes {r : RelD} (h : relB r = true) (h2 : (relL r).length ≤ 8000) : relT r = S (relL r) := by unfold relT; rw [if_pos ⟨h, h2⟩]
/-- what is known of a right rule. -/
structure RuleS (x : RuleD) : Prop where
  nm : x.name.size ≤ 20
  lo1 : 1 ≤ x.lo
  lo2 : x.lo ≤ 9999
  hi1 : 1 ≤ x.hi
  hi2 : x.hi ≤ 9999
  m1 : 1 ≤ x.month
  m2 : x.month ≤ 12
  on : x.on.size ≤ 1048576
  of : x.of.size ≤ 8000
  lt : x.letter.size ≤ 8000
theorem of_size {s : ByteArray} (h : ofB s = true) : s.size = 1 := by
  have e : s.size = s.toList.length := by rw [ByteArray.toList_eq, Array.length_toList]; rfl
  unfold ofB at h
  simp only [Bool.or_eq_true, beq_iff_eq] at h
  rcases h with h | h | h <;> rw [e, h] <;> rfl
theorem name_size {s : ByteArray} (h : nameB s = true) : s.size ≤ 20 := (of_decide_eq_true h).2.1
theorem rule_S {x : RuleD} (h : ruleB x = true) (hon : x.on.size ≤ 1048576) : RuleS x := by
  unfold ruleB at h
  simp only [Bool.and_eq_true] at h
  obtain ⟨h1, h2, h3, h4, _, _, h7, _, h9⟩ := h
  have h2 := isB_of_t h2
  have h3 := isB_of_t h3
  have h4 := isB_of_t h4
  have h7 := of_size h7
  unfold ltB at h9
  rw [Bool.and_eq_true] at h9
  have h9 := of_decide_eq_true h9.1
  exact ⟨name_size h1, by omega, by omega, by omega, by omega, by omega, by omega, hon, by omega, by omega⟩
theorem era_S {e : EraD} (h : eraP e = true) : EraS e := by
  unfold eraP at h
  simp only [Bool.and_eq_true, decide_eq_true_eq] at h
  obtain ⟨_, _, h3, h4, h5, h6, h7⟩ := h
  have h4 := (of_decide_eq_true h4).2.1
  have h7 := of_size h7
  refine ⟨h4, ?_, by omega, h5, h6⟩
  unfold erB at h3
  cases he : e.rules.toList.isEmpty
  · rw [he] at h3
    simp only [Bool.false_eq_true, ↓reduceIte, Bool.and_eq_true] at h3
    exact name_size h3.1
  · have e1 : e.rules.size = e.rules.toList.length := by rw [ByteArray.toList_eq, Array.length_toList]; rfl
    have e2 : e.rules.size = 0 := by rw [e1, List.isEmpty_iff.mp he]; rfl
    omega
/-- what is known of a right zone. -/
structure ZoneS (z : ZoneD) : Prop where
  nm : z.name.size ≤ 20
  len : 1 ≤ z.eras.length ∧ z.eras.length ≤ 8
  eras : ∀ e ∈ z.eras, EraS e
  up : ∀ (k : Nat) e, z.eras[k]? = some e → k + 1 < z.eras.length → e.until_ < 253402300799
  last : ∀ e, z.eras[z.eras.length - 1]? = some e → e.until_ = 253402300799
theorem zone_S {z : ZoneD} (h : zoneP z = true) : ZoneS z := by
  unfold zoneP at h
  simp only [Bool.and_eq_true, decide_eq_true_eq] at h
  obtain ⟨h1, h2, h3, h4, h5⟩ := h
  have hE : ∀ e ∈ z.eras, EraS e := fun e he => era_S (List.all_eq_true.mp h3 e he)
  refine ⟨name_size h1, h2, hE, fun k e hk hl => ?_, fun e he => ?_⟩
  · obtain ⟨y, hy⟩ : ∃ y, z.eras[k + 1]? = some y := ⟨_, List.getElem?_eq_getElem hl⟩
    have := up_of h4 hk hy
    have := (hE y (List.mem_of_getElem? hy)).hi
    omega
  · unfold laB2 at h5
    rw [he] at h5
    simp only [Bool.and_eq_true, beq_iff_eq] at h5
    exact h5.1
theorem ruleT_le {x : RuleD} (h : RuleS x) : (ruleT x).size ≤ 2000000 := by
  unfold ruleT
  refine Nat.le_trans (lineB_size _) ?_
  have h0 := h.nm
  have h1 := dd_len (n := x.lo.toNat) (by have := h.lo2; omega)
  rw [← S_size] at h1
  have h2 := toB_len (lo := x.lo.toNat) (hi := x.hi.toNat) (by have := h.hi2; omega)
  have h3 := monB_len h.m1 h.m2
  have h4 := h.on
  have h5 := tmB_len x.at_ x.of h.of
  have h6 := offV_len x.save
  have h7 := dashB_len x.letter h.lt
  have : szs [(⟨#[82, 117, 108, 101]⟩ : ByteArray), x.name, S (Lib.decDigits x.lo.toNat), toB x.lo.toNat x.hi.toNat, ⟨#[45]⟩, monB x.month, x.on, tmB x.at_ x.of, S (offV x.save), dashB x.letter] = 4 + (x.name.size + ((S (Lib.decDigits x.lo.toNat)).size + ((toB x.lo.toNat x.hi.toNat).size + (1 + ((monB x.month).size + (x.on.size + ((tmB x.at_ x.of).size + ((S (offV x.save)).size + ((dashB x.letter).size + 0))))))))) := rfl
  rw [this]
  simp only [List.length_cons, List.length_nil]
  omega
theorem zonT_le {z : ZoneD} (h : ZoneS z) : (zonT z).size ≤ 100000 := by
  unfold zonT zoneT
  obtain ⟨x, hx⟩ : ∃ x, z.eras[z.eras.length - 1]? = some x := ⟨_, List.getElem?_eq_getElem (by have := h.len; omega)⟩
  have h1 := zTx_le h.nm h.eras (z.eras.length - 1) (by omega)
  have h2 := lineB_size (zHd z.name (z.eras.length - 1) ++ eraW x)
  have h3 := zHd_le z.name (z.eras.length - 1) h.nm
  have h4 := eraW_le (h.eras x (List.mem_of_getElem? hx))
  have h5 := h.len
  rw [szs_append, List.length_append] at h2
  rw [hx, ByteArray.size_append]
  simp only [Option.getD_some]
  omega
theorem lnkT_le {x : LinkD} (h : linkB x = true) : (lnkT x).size ≤ 100 := by
  unfold linkB at h
  rw [Bool.and_eq_true] at h
  have h1 := name_size h.1
  have h2 := name_size h.2
  unfold lnkT
  refine Nat.le_trans (lineB_size _) ?_
  have : szs [(⟨#[76, 105, 110, 107]⟩ : ByteArray), x.to_, x.name] = 4 + (x.to_.size + (x.name.size + 0)) := rfl
  rw [this]
  simp only [List.length_cons, List.length_nil]
  omega
theorem isBuilder_below {T e : TypeId} {B b : Nat} {bs : List Value} {w w' : World} (h : Lib.IsBuilder T e B b bs w) (hb : Below w.heap.size w w') : Lib.IsBuilder T e B b bs w' := by
  rcases h with ⟨h1, v, h2, h3, h4⟩ | ⟨h1, v, h2, h3, h4⟩
  · exact .inl ⟨h1, v, (hb.block _ (Array.getElem?_eq_some_iff.1 h2).1).trans h2, own_belowS h3 hb, h4⟩
  · exact .inr ⟨h1, v, (hb.block _ (Array.getElem?_eq_some_iff.1 h2).1).trans h2, own_belowS h3 hb, h4⟩
theorem isBuilder_lt {T e : TypeId} {B b : Nat} {bs : List Value} {w : World} (h : Lib.IsBuilder T e B b bs w) : b < w.heap.size := by
  rcases h with h | h <;> exact h.lt
end Go.Proofs.YtjdokmllidhapaaGreatDoor
namespace Go.Proofs.YtjdokmllidhapaaGreatDoor
open Go.RowKit Go.Sort

/-- a text written behind what a Builder holds. -/
theorem write_text (B b : Nat) (L : List UInt8) (s : ByteArray) (w : World) (h : Lib.IsBuilder 125 5 B b (Lib.byteCells L) w) (hlen : L.length + s.size ≤ 140737488355328) (hBw : B ≤ w.heap.size) :
    Calls Tryz.prog 83 #[.pointer (some ⟨b, 0, none⟩), .string s] w fun e w' => e = .returned (.tuple #[.int .i64 s.size, .nilIface]) ∧ Lib.IsBuilder 125 5 B b (Lib.byteCells (L ++ s.data.toList)) w' ∧ Below B w w' := by
  refine (Tryz.Builder_WriteString_j B b (Lib.byteCells L) s w h (by rw [Lib.byteCells_length]; exact hlen) hBw).mono ?_
  rintro e w' ⟨he, hb, hB⟩
  refine ⟨he, .inr ?_, hB⟩
  rw [Lib.byteCells_append, ← Lib.strCells_eq]
  exact hb
set_option maxRecDepth 20000 in
set_option maxHeartbeats 8000000 in
theorem impl_ReleaseText (r : RelD) (v : Value) (w : World) (B0 : Nat) (hE : EnvZ w) (hP : Pow w) (hv : OwnRel w B0 v r) (ok : r.ok) (sm : r.small) (hon : ∀ x ∈ r.rules, x.on.size ≤ 1048576) :
    Calls Tryz.prog 29 #[v] w fun e w' => e = .returned (.string (relT r)) ∧ Below w.heap.size w w' := by
  have hR := fun w hE h => impl_ReleaseRight r v w hE h ok sm hon
  have hvr := hv.rel
  obtain ⟨a, b, c, rfl, _, ⟨hAr, _⟩, ⟨hAz, _⟩, ⟨hAl, _⟩⟩ := hv.form
  have hB0 := (Below.refl w.heap.size w).alloc (Nat.le_refl _) (.cells #[.slice (some ⟨a, 0, none⟩) r.rules.length r.rules.length, .slice (some ⟨b, 0, none⟩) r.zones.length r.zones.length, .slice (some ⟨c, 0, none⟩) r.links.length r.links.length] 27)
  cases hr : relB r
  · rw [relT_no1 hr]
    rw [hr] at hR
    clear hr
    go_enter Tryz.func29, Tryz.ntmps29
    go_wp2_with fail
    refine (hR _ (hE.of_below hB0) (hvr.below hB0)).mono ?_
    rintro e w1 ⟨rfl, hb1⟩
    go_wp2
    go_ret
    exact ⟨rfl, hB0.trans (hb1.mono hB0.size)⟩
  have hT := rel_of hr
  obtain ⟨l1, l2, l3⟩ := hT.lens
  have sR : ∀ x ∈ r.rules, RuleS x := fun x hx => rule_S (List.all_eq_true.mp hT.rules x hx) (hon x hx)
  have sZ : ∀ z ∈ r.zones, ZoneS z := fun z hz => zone_S (List.all_eq_true.mp hT.zones z hz)
  have sL : ∀ x ∈ r.links, linkB x = true := fun x hx => List.all_eq_true.mp hT.links x hx
  have bR := fun k h => catL_le (f := ruleT) (fun x hx => ruleT_le (sR x hx)) k h
  have bZ := fun k h => catL_le (f := zonT) (fun x hx => zonT_le (sZ x hx)) k h
  have bL := fun k h => catL_le (f := lnkT) (fun x hx => lnkT_le (sL x hx)) k h
  have HL : Hid (relL r = catL ruleT r.rules r.rules.length ++ catL zonT r.zones r.zones.length ++ catL lnkT r.links r.links.length) := rfl
  have Y1 : Hid ((relL r).length ≤ 8000 → relT r = S (relL r)) := fun h => relT_yes hr h
  have Y2 : Hid (¬ (relL r).length ≤ 8000 → relT r = ⟨#[]⟩) := fun h => relT_no2 h
  rw [hr] at hR
  clear hr hT ok sm hon
  generalize relT r = RT at *
  go_enter Tryz.func29, Tryz.ntmps29
  go_wp2_with fail
  refine (hR _ (hE.of_below hB0) (hvr.below hB0)).mono ?_
  rintro e wB ⟨rfl, hb1⟩
  have hBB := hB0.trans (hb1.mono hB0.size)
  have q0 : wB.cell? ⟨w.heap.size, 0, none⟩ = some (.slice (some ⟨a, 0, none⟩) r.rules.length r.rules.length) := ((bcell hb1).1 _ _ (by simp)).trans (by simp [go_sem])
  have q1 : wB.cell? ⟨w.heap.size, 1, none⟩ = some (.slice (some ⟨b, 0, none⟩) r.zones.length r.zones.length) := ((bcell hb1).1 _ _ (by simp)).trans (by simp [go_sem])
  have q2 : wB.cell? ⟨w.heap.size, 2, none⟩ = some (.slice (some ⟨c, 0, none⟩) r.links.length r.links.length) := ((bcell hb1).1 _ _ (by simp)).trans (by simp [go_sem])
  have hlt : w.heap.size < wB.heap.size := World.block_lt_of_cell? _ _ q0
  have hF := Lib.fresh_isBuilder 125 5 wB
  clear hR hb1 hB0 hvr
  go_wp2
  go_loopw [16] (fun s wr => ∃ k : Nat, k ≤ r.rules.length ∧ s = .int .i64 k ∧ Lib.IsBuilder 125 5 wB.heap.size wB.heap.size (Lib.byteCells (catL ruleT r.rules k)) wr ∧ Below wB.heap.size wB wr) (fun s _ => r.rules.length - (intOf s).toNat)
  case atStart => exact ⟨0, by omega, rfl, hF, (Below.refl _ _).alloc (Nat.le_refl _) _⟩
  case round =>
    clear hF
    obtain ⟨k, hk, rfl, hI, hB⟩ := hrel
    have hBw := hBB.trans (hB.mono hBB.size)
    have hsW := hB.size
    by_cases hlt2 : k < r.rules.length
    · obtain ⟨x, hx⟩ : ∃ x, r.rules[k]? = some x := ⟨_, List.getElem?_eq_getElem hlt2⟩
      have sx := sR x (List.mem_of_getElem? hx)
      obtain ⟨b', o', he, hc⟩ := (hAr.below hBw).at (i := k) (r := x.cs) (by rw [List.getElem?_map, hx]; rfl)
      injection he with he
      injection he with u1 u2
      subst u1 u2
      simp only [Nat.zero_add] at hc
      have c0 : wr.cell? ⟨a, k * 9, none⟩ = some (.string x.name) := hc 0 _ rfl
      have c1 := hc 1 _ rfl
      have c2 := hc 2 _ rfl
      have c3 := hc 3 _ rfl
      have c4 := hc 4 _ rfl
      have c5 := hc 5 _ rfl
      have c6 := hc 6 _ rfl
      have c7 := hc 7 _ rfl
      have c8 := hc 8 _ rfl
      clear hc
      have HC : Hid (catL ruleT r.rules (k + 1) = catL ruleT r.rules k ++ (ruleT x).data.toList) := catL_succ hx
      have hz := bR k (by omega)
      have ht := ruleT_le sx
      obtain ⟨lo, elo⟩ : ∃ n : Nat, x.lo = n := ⟨x.lo.toNat, by have := sx.lo1; omega⟩
      obtain ⟨hi, ehi⟩ : ∃ n : Nat, x.hi = n := ⟨x.hi.toNat, by have := sx.hi1; omega⟩
      obtain ⟨mo, emo⟩ : ∃ n : Nat, x.month = n := ⟨x.month.toNat, by have := sx.m1; omega⟩
      have hRT := fun w hP => impl_ruleText x.name x.on x.of x.letter lo hi mo x.at_ x.save w hP sx.nm (by have := sx.lo2; omega) (by have := sx.hi2; omega) (by have := sx.m1; omega) (by have := sx.m2; omega) sx.on sx.of sx.lt
      have HE : Hid (lineB [⟨#[82, 117, 108, 101]⟩, x.name, S (Lib.decDigits lo), toB lo hi, ⟨#[45]⟩, monB mo, x.on, tmB x.at_ x.of, S (offV x.save), dashB x.letter] = ruleT x) := by
        simp only [Hid]; unfold ruleT; rw [elo, ehi, emo]; rfl
      rw [HE.out, ← elo, ← ehi, ← emo] at hRT
      generalize ruleT x = TX at *
      generalize catL ruleT r.rules k = LL at *
      clear hx HE elo ehi emo sx
      go_wp2_with fail
      have hb1 : Below wr.heap.size wr (wr.alloc (.cells #[.string x.name, .int .i64 x.lo, .int .i64 x.hi, .int .i64 x.month, .string x.on, .int .i64 x.at_, .string x.of, .int .i64 x.save, .string x.letter] 104)) := (Below.refl _ _).alloc (Nat.le_refl _) _
      have hB1 := hBw.trans (hb1.mono hBw.size)
      have hI1 := isBuilder_below hI hb1
      have hC1 := hB.trans (hb1.mono hsW)
      refine (hRT _ (hP.of_below hB1)).mono ?_
      rintro e w2 ⟨rfl, hb2⟩
      have hI2 := isBuilder_below hI1 hb2
      have hC2 := hC1.trans (hb2.mono hC1.size)
      clear hI hI1 hb1 hb2 hC1 hB1 c0 c1 c2 c3 c4 c5 c6 c7 c8
      go_wp2_with fail
      refine (write_text _ _ LL TX _ hI2 (by omega) hC2.size).mono ?_
      rintro e w3 ⟨rfl, hI3, hb3⟩
      have hC3 := hC2.trans hb3
      clear hI2 hb3 hC2
      go_wp2
      go_roundw
      case rel => exact ⟨k + 1, by omega, by go_num, by rw [HC.out]; exact hI3, hC3⟩
      case measure => simp [intOf]; omega
    · obtain rfl : k = r.rules.length := by omega
      have hz1 := bR r.rules.length (by omega)
      generalize catL ruleT r.rules r.rules.length = LR at *
      have Q1 := (hB.cell (p := ⟨w.heap.size, 1, none⟩) hlt).trans q1
      have HI0 : Hid (Lib.byteCells LR = Lib.byteCells (LR ++ catL zonT r.zones 0)) := by simp only [Hid]; rw [catL_zero, List.append_nil]
      rw [HI0.out] at hI
      go_wp2
      clear Q1
      generalize wr = wz at *
      go_loopw [27] (fun s wr => ∃ k : Nat, k ≤ r.zones.length ∧ s = .int .i64 k ∧ Lib.IsBuilder 125 5 wB.heap.size wB.heap.size (Lib.byteCells (LR ++ catL zonT r.zones k)) wr ∧ Below wB.heap.size wB wr) (fun s _ => r.zones.length - (intOf s).toNat)
      case atStart => exact ⟨0, by omega, rfl, hI, hB⟩
      case round =>
        clear hI hB hBw hsW hlt2 hk HI0
        obtain ⟨k, hk, rfl, hI, hB⟩ := hrel
        have hBw := hBB.trans (hB.mono hBB.size)
        have hsW := hB.size
        by_cases hlt2 : k < r.zones.length
        · obtain ⟨z, hx⟩ : ∃ x, r.zones[k]? = some x := ⟨_, List.getElem?_eq_getElem hlt2⟩
          have sx := sZ z (List.mem_of_getElem? hx)
          obtain ⟨c0, q, hq, c1, hAe, _⟩ := (hAz.below hBw) k z hlt2 hx
          have HC : Hid (LR ++ catL zonT r.zones (k + 1) = LR ++ catL zonT r.zones k ++ (zonT z).data.toList) := by simp only [Hid]; rw [catL_succ hx, List.append_assoc]
          have hz := bZ k (by omega)
          have ht := zonT_le sx
          obtain ⟨nm, es⟩ := z
          obtain ⟨n, hn⟩ : ∃ n, es.length = n + 1 := ⟨es.length - 1, by have := sx.len; simp only at this; omega⟩
          have hZT := fun w hT hP h => impl_zoneText nm es q w hT hP n hn h sx.nm (by have := sx.len; simp only at this; omega) sx.eras
          have HE : Hid (zoneT nm es n = zonT ⟨nm, es⟩) := by simp only [Hid]; unfold zonT; simp only; rw [hn, Nat.add_sub_cancel]
          rw [HE.out] at hZT
          simp only at c0 c1 hAe
          rw [hn] at c1
          generalize zonT ⟨nm, es⟩ = TX at *
          obtain ⟨LL, hLL⟩ : ∃ LL, LR ++ catL zonT r.zones k = LL := ⟨_, rfl⟩
          have hll : LL.length ≤ 100000000 := by rw [← hLL, List.length_append]; omega
          rw [hLL] at hI HC
          clear hx HE sx hLL hz
          go_wp2_with fail
          have hb1 : Below wr.heap.size wr (wr.alloc (.cells #[.string nm, .slice (some ⟨q, 0, none⟩) (n + 1) (n + 1)] 49)) := (Below.refl _ _).alloc (Nat.le_refl _) _
          have hB1 := hBw.trans (hb1.mono hBw.size)
          have hI1 := isBuilder_below hI hb1
          have hC1 := hB.trans (hb1.mono hsW)
          refine (hZT _ (hE.1.of_below hB1) (hP.of_below hB1) (hAe.below hb1)).mono ?_
          rintro e w2 ⟨rfl, hb2⟩
          have hI2 := isBuilder_below hI1 hb2
          have hC2 := hC1.trans (hb2.mono hC1.size)
          clear hI hI1 hb1 hb2 hC1 hB1 c0 c1 hAe
          go_wp2_with fail
          refine (write_text _ _ LL TX _ hI2 (by omega) hC2.size).mono ?_
          rintro e w3 ⟨rfl, hI3, hb3⟩
          have hC3 := hC2.trans hb3
          clear hI2 hb3 hC2
          go_wp2
          go_roundw
          case rel => exact ⟨k + 1, by omega, by go_num, by rw [HC.out]; exact hI3, hC3⟩
          case measure => simp [intOf]; omega
        · obtain rfl : k = r.zones.length := by omega
          have hz2 := bZ r.zones.length (by omega)
          obtain ⟨LZ, hLZ⟩ : ∃ LZ, LR ++ catL zonT r.zones r.zones.length = LZ := ⟨_, rfl⟩
          have hlz : LZ.length ≤ 100000000 := by rw [← hLZ, List.length_append]; omega
          rw [hLZ] at hI HL
          have Q2 := (hB.cell (p := ⟨w.heap.size, 2, none⟩) hlt).trans q2
          have HI0 : Hid (Lib.byteCells LZ = Lib.byteCells (LZ ++ catL lnkT r.links 0)) := by simp only [Hid]; rw [catL_zero, List.append_nil]
          rw [HI0.out] at hI
          clear hLZ
          go_wp2
          clear Q2
          generalize wr = wl at *
          go_loopw [38] (fun s wr => ∃ k : Nat, k ≤ r.links.length ∧ s = .int .i64 k ∧ Lib.IsBuilder 125 5 wB.heap.size wB.heap.size (Lib.byteCells (LZ ++ catL lnkT r.links k)) wr ∧ Below wB.heap.size wB wr) (fun s _ => r.links.length - (intOf s).toNat)
          case atStart => exact ⟨0, by omega, rfl, hI, hB⟩
          case round =>
            clear hI hB hBw hsW hlt2 hk HI0
            obtain ⟨k, hk, rfl, hI, hB⟩ := hrel
            have hBw := hBB.trans (hB.mono hBB.size)
            have hsW := hB.size
            by_cases hlt2 : k < r.links.length
            · obtain ⟨x, hx⟩ : ∃ x, r.links[k]? = some x := ⟨_, List.getElem?_eq_getElem hlt2⟩
              have sx := sL x (List.mem_of_getElem? hx)
              obtain ⟨b', o', he, hc⟩ := (hAl.below hBw).at (i := k) (r := x.cs) (by rw [List.getElem?_map, hx]; rfl)
              injection he with he
              injection he with u1 u2
              subst u1 u2
              simp only [Nat.zero_add] at hc
              have c0 : wr.cell? ⟨c, k * 2, none⟩ = some (.string x.to_) := hc 0 _ rfl
              have c1 := hc 1 _ rfl
              clear hc
              have HC : Hid (LZ ++ catL lnkT r.links (k + 1) = LZ ++ catL lnkT r.links k ++ (lnkT x).data.toList) := by simp only [Hid]; rw [catL_succ hx, List.append_assoc]
              have hz := bL k (by omega)
              have ht := lnkT_le sx
              have hLT : ∀ (w : World) (g : Nat), (∀ (j : Nat) (y : ByteArray), [(⟨#[76, 105, 110, 107]⟩ : ByteArray), x.to_, x.name][j]? = some y → w.cell? ⟨g, j, none⟩ = some (.string y)) → g < w.heap.size → Calls Tryz.prog 86 #[.slice (some ⟨g, 0, none⟩) 3 3] w fun e w' => e = .returned (.string (lnkT x)) ∧ Below w.heap.size w w' := fun w g h1 h2 => by
                have hj := join_le [(⟨#[76, 105, 110, 107]⟩ : ByteArray), x.to_, x.name]
                have hs : szs [(⟨#[76, 105, 110, 107]⟩ : ByteArray), x.to_, x.name] = 4 + (x.to_.size + (x.name.size + 0)) := rfl
                unfold linkB at sx
                rw [Bool.and_eq_true] at sx
                have n1 := name_size sx.1
                have n2 := name_size sx.2
                rw [hs] at hj
                exact impl_lineText [(⟨#[76, 105, 110, 107]⟩ : ByteArray), x.to_, x.name] g 3 w h1 h2 (by simp) (Nat.le_refl _) (by simp only [List.length_cons, List.length_nil] at hj; omega)
              generalize lnkT x = TX at *
              obtain ⟨LL, hLL⟩ : ∃ LL, LZ ++ catL lnkT r.links k = LL := ⟨_, rfl⟩
              have hll : LL.length ≤ 200000000 := by rw [← hLL, List.length_append]; omega
              rw [hLL] at hI HC
              clear hx sx hLL hz
              go_wp2_with fail
              have hb1 : Below wr.heap.size wr ((wr.alloc (.cells #[.string x.to_, .string x.name] 108)).alloc (.cells #[.string ⟨#[76, 105, 110, 107]⟩, .string x.to_, .string x.name] 9)) := ((Below.refl _ _).alloc (Nat.le_refl _) _).alloc (by simp) _
              have hB1 := hBw.trans (hb1.mono hBw.size)
              have hI1 := isBuilder_below hI hb1
              have hC1 := hB.trans (hb1.mono hsW)
              refine (hLT _ _ ?cells (by simp)).mono ?_
              case cells =>
                intro j y hy
                have := cells_new (wr.alloc (.cells #[.string x.to_, .string x.name] 108)) [.string ⟨#[76, 105, 110, 107]⟩, .string x.to_, .string x.name] 9 j (.string y) (by
                  rw [show ([.string ⟨#[76, 105, 110, 107]⟩, .string x.to_, .string x.name] : List Value) = [(⟨#[76, 105, 110, 107]⟩ : ByteArray), x.to_, x.name].map Value.string from rfl, List.getElem?_map, hy]; rfl)
                rw [World.size_alloc] at this
                rcases Nat.eq_zero_or_pos j with rfl | h0
                · exact this
                · have h1 : j ≠ 0 := by omega
                  simpa only [Addr.add, h1, ↓reduceIte, Nat.zero_add] using this
              rintro e w2 ⟨rfl, hb2⟩
              have hI2 := isBuilder_below hI1 hb2
              have hC2 := hC1.trans (hb2.mono hC1.size)
              clear hI hI1 hb1 hb2 hC1 hB1 c0 c1 hLT
              go_wp2_with fail
              refine (write_text _ _ LL TX _ hI2 (by omega) hC2.size).mono ?_
              rintro e w3 ⟨rfl, hI3, hb3⟩
              have hC3 := hC2.trans hb3
              clear hI2 hb3 hC2
              go_wp2
              go_roundw
              case rel => exact ⟨k + 1, by omega, by go_num, by rw [HC.out]; exact hI3, hC3⟩
              case measure => simp [intOf]; omega
            · obtain rfl : k = r.links.length := by omega
              rw [← HL.out] at hI
              have hLen := Tryz.Builder_Len wB.heap.size wB.heap.size _ wr hI
              rw [Lib.byteCells_length] at hLen
              have hStr := Tryz.Builder_String_any wB.heap.size wB.heap.size (relL r) wr hI hsW
              by_cases hl8 : (relL r).length ≤ 8000
              · have E := Y1.out hl8
                have hg : ¬ (8000 : Int) < ((relL r).length : Int) := by omega
                generalize relL r = LF at *
                clear Y1 Y2 HL
                go_wp2_with fail
                refine hLen.mono ?_
                rintro e wM ⟨rfl, hwM⟩
                have hwM := hwM.symm
                subst hwM
                go_wp2_with fail
                refine hStr.mono ?_
                rintro e w9 ⟨rfl, hb9⟩
                have hB9 := hBB.trans ((hB.trans hb9).mono hBB.size)
                go_wp2
                go_ret
                exact ⟨ret_str (by rw [E]), hB9⟩
              · have E := Y2.out hl8
                have hg : (8000 : Int) < ((relL r).length : Int) := by omega
                generalize relL r = LF at *
                clear Y1 Y2 HL
                go_wp2_with fail
                refine hLen.mono ?_
                rintro e wM ⟨rfl, hwM⟩
                have hwM := hwM.symm
                subst hwM
                go_wp2
                go_ret
                exact ⟨ret_str E.symm, hBw⟩
end Go.Proofs.YtjdokmllidhapaaGreatDoor
namespace Go.Proofs.YtjdokmllidhapaaGreatDoor
open Go.RowKit Go.Sort

def eraJ (O R F T : ByteArray) : ByteArray := O ++ ⟨#[32]⟩ ++ R ++ ⟨#[32]⟩ ++ F ++ T ++ ⟨#[10]⟩
def untJ (Y M D X : ByteArray) : ByteArray := ⟨#[32]⟩ ++ Y ++ ⟨#[32]⟩ ++ M ++ ⟨#[32]⟩ ++ D ++ ⟨#[32]⟩ ++ X
theorem off_ne {n : Int} (h1 : -7200 ≤ n) (h2 : n ≤ 7200) : (S (offV n)).toList.isEmpty = false := by
  rw [ByteArray.toList_eq]
  unfold offV
  rw [isB_t (by omega) (by omega), if_pos rfl]
  split
  · rfl
  · unfold offL
    simp
theorem wrap_mid (x : Int) (h1 : -1000000000000 ≤ x) (h2 : x ≤ 1000000000000) : IntKind.i64.wrap x = x := by
  have e : IntKind.i64.wrap x = (if x % 18446744073709551616 ≥ 9223372036854775808 then x % 18446744073709551616 - 18446744073709551616 else x % 18446744073709551616) := by unfold IntKind.wrap; simp [IntKind.bits, IntKind.signed]
  rw [e]
  split <;> omega
theorem ba_nil (a : ByteArray) : a ++ (⟨#[]⟩ : ByteArray) = a := by
  apply ByteArray.ext
  simp
set_option linter.unusedSimpArgs false in
set_option maxRecDepth 200000 in
set_option maxHeartbeats 8000000 in
theorem spec_l02EraText (rules fmt of : ByteArray) (off sv unt : Int) (w : World) (h1 : -62135596800 ≤ unt) (h2 : unt ≤ 253402300799) (h3 : fmt.size ≤ 12) (h4 : rules.size ≤ 20) (h7 : of.size ≤ 8000) (hv1 : -7200 ≤ sv) (hv2 : sv ≤ 7200) :
    Calls Tryz.prog 82 #[.agg #[.int .i64 off, .string rules, .int .i64 sv, .string fmt, .int .i64 unt, .string of]] w fun e w' => e = .returned (.string (eraJ (S (offV off)) (rulT rules sv) fmt (if unt < 253402300799 then untJ (S (Lib.decDigits (yOf (unt / 86400)).toNat)) (monB (mOf (unt / 86400))) (S (Lib.decDigits (dOf (unt / 86400)).toNat)) (tmB (unt % 86400) of) else ⟨#[]⟩))) ∧ Below w.heap.size w w' := by
  have hO := fun w => spec_OffsetText off w
  have hOs := fun w => spec_OffsetText sv w
  have hFl := fun w => spec_l01Floor unt w h1 h2
  have hDt := fun w => spec_l01Date (unt / 86400) w (by omega) (by omega)
  obtain ⟨y, m, d, ey, em, ed, y1, y2, m1', m2', d1, d2⟩ := date_nat (n := unt / 86400) (by omega) (by omega)
  rw [ey, em, ed] at hDt
  rw [ey, em, ed]
  simp only [Int.toNat_natCast]
  have hY := fun w => spec_l01Dec y w (by omega)
  have hDd := fun w => spec_l01Dec d w (by omega)
  have hM := fun w => spec_l02Months w
  have hX := fun w => spec_l02TimeText (unt % 86400) of w h7
  have s1 := dd_len (n := y) (by omega)
  rw [← S_size] at s1
  have s2 := dd_len (n := d) (by omega)
  rw [← S_size] at s2
  have s4 : (monB m).size ≤ 3 := Nat.le_of_eq (monB_len (m := m) (by omega) (by omega))
  have s5 := tmB_len (unt % 86400) of h7
  have s6 := offV_len off
  have s7 := offV_len sv
  have s8 := rulT_le rules sv h4
  obtain ⟨k, hk⟩ : ∃ k, m = k + 1 := ⟨m - 1, by omega⟩
  have m1 : (m : Int) - 1 = (k : Int) := by omega
  have m2 : (0 : Int) ≤ (k : Int) := by omega
  have m3 : (k : Int) < 12 := by omega
  have m4 : IntKind.i64.wrap (k : Int) = (k : Int) := wrap_small _ m2 (by omega)
  have hM' : ∀ w, Calls Tryz.prog 149 #[] w fun e w' => e = .returned (.slice (some ⟨w.heap.size, 0, none⟩) 12 12) ∧ Below w.heap.size w w' ∧ w'.cell? ⟨w.heap.size, k, none⟩ = some (.string (monB m)) := fun w => (hM w).mono fun e w' ⟨a, b, c⟩ => ⟨a, b, by have := c m m1' m2'; rw [hk] at this ⊢; exact this⟩
  have hck : unt - 86400 * (unt / 86400) = unt % 86400 := by omega
  have hdy1 : -719163 ≤ unt / 86400 := by omega
  have hdy2 : unt / 86400 ≤ 2932897 := by omega
  have hck1 : 0 ≤ unt % 86400 := by omega
  have hck2 : unt % 86400 < 86400 := by omega
  have w1' : IntKind.i64.wrap (86400 * (unt / 86400)) = 86400 * (unt / 86400) := wrap_mid _ (by omega) (by omega)
  have w2' : IntKind.i64.wrap (unt % 86400) = unt % 86400 := wrap_small _ hck1 (by omega)
  have EQ : rulT rules sv = (if rules.toList.isEmpty = true then (if sv = 0 then ⟨#[45]⟩ else S (offV sv)) else rules) := rfl
  have EN := off_ne hv1 hv2
  clear hM hk ey em ed
  generalize S (Lib.decDigits y) = Y at *
  generalize S (Lib.decDigits d) = D at *
  generalize monB m = M at *
  generalize tmB (unt % 86400) of = X at *
  generalize S (offV off) = O at *
  generalize hSv : S (offV sv) = OS at *
  generalize rulT rules sv = R at *
  generalize unt % 86400 = ck at *
  generalize unt / 86400 = dy at *
  have HT1 : Hid (unt < 253402300799 → (if unt < 253402300799 then untJ Y M D X else ⟨#[]⟩) = ⟨#[32]⟩ ++ Y ++ ⟨#[32]⟩ ++ M ++ ⟨#[32]⟩ ++ D ++ ⟨#[32]⟩ ++ X) := fun h => if_pos h
  have HT2 : Hid (253402300799 ≤ unt → (if unt < 253402300799 then untJ Y M D X else ⟨#[]⟩) = ⟨#[]⟩) := fun h => if_neg (by omega)
  generalize (if unt < 253402300799 then untJ Y M D X else ⟨#[]⟩) = T at *
  unfold eraJ
  have hB0 := (Below.refl w.heap.size w).alloc (Nat.le_refl _) (.cells #[.int .i64 off, .string rules, .int .i64 sv, .string fmt, .int .i64 unt, .string of] 55)
  have c0_0 : (w.alloc (.cells #[.int .i64 off, .string rules, .int .i64 sv, .string fmt, .int .i64 unt, .string of] 55)).cell? ⟨w.heap.size, 0, none⟩ = some (.int .i64 off) := by simp [go_sem]
  have c1_0 : (w.alloc (.cells #[.int .i64 off, .string rules, .int .i64 sv, .string fmt, .int .i64 unt, .string of] 55)).cell? ⟨w.heap.size, 1, none⟩ = some (.string rules) := by simp [go_sem]
  have c2_0 : (w.alloc (.cells #[.int .i64 off, .string rules, .int .i64 sv, .string fmt, .int .i64 unt, .string of] 55)).cell? ⟨w.heap.size, 2, none⟩ = some (.int .i64 sv) := by simp [go_sem]
  have c3_0 : (w.alloc (.cells #[.int .i64 off, .string rules, .int .i64 sv, .string fmt, .int .i64 unt, .string of] 55)).cell? ⟨w.heap.size, 3, none⟩ = some (.string fmt) := by simp [go_sem]
  have c4_0 : (w.alloc (.cells #[.int .i64 off, .string rules, .int .i64 sv, .string fmt, .int .i64 unt, .string of] 55)).cell? ⟨w.heap.size, 4, none⟩ = some (.int .i64 unt) := by simp [go_sem]
  have c5_0 : (w.alloc (.cells #[.int .i64 off, .string rules, .int .i64 sv, .string fmt, .int .i64 unt, .string of] 55)).cell? ⟨w.heap.size, 5, none⟩ = some (.string of) := by simp [go_sem]
  cases e1 : rules.toList.isEmpty
  · rw [e1] at EQ
    simp only [Bool.false_eq_true, ↓reduceIte] at EQ
    have EQ := EQ.symm
    subst EQ
    have hDs : ∀ w, Calls Tryz.prog 152 #[.string rules] w fun e w' => e = .returned (.string rules) ∧ w' = w := fun w => by
      have := spec_l02Dash rules w
      unfold dashB at this
      rw [e1] at this
      exact this
    go_enter Tryz.func82, Tryz.ntmps82
    have hD1 : Below (w.alloc (.cells #[.int .i64 off, .string rules, .int .i64 sv, .string fmt, .int .i64 unt, .string of] 55)).heap.size (w.alloc (.cells #[.int .i64 off, .string rules, .int .i64 sv, .string fmt, .int .i64 unt, .string of] 55)) (w.alloc (.cells #[.int .i64 off, .string rules, .int .i64 sv, .string fmt, .int .i64 unt, .string of] 55)).drew := ⟨rfl, rfl, rfl, Nat.le_refl _, fun _ _ => rfl⟩
    have hB2 := hB0.trans (hD1.mono hB0.size)
    have c0_2 := ((bcell hD1).1 _ _ (World.block_lt_of_cell? _ _ c0_0)).trans c0_0
    have c1_2 := ((bcell hD1).1 _ _ (World.block_lt_of_cell? _ _ c1_0)).trans c1_0
    have c2_2 := ((bcell hD1).1 _ _ (World.block_lt_of_cell? _ _ c2_0)).trans c2_0
    have c3_2 := ((bcell hD1).1 _ _ (World.block_lt_of_cell? _ _ c3_0)).trans c3_0
    have c4_2 := ((bcell hD1).1 _ _ (World.block_lt_of_cell? _ _ c4_0)).trans c4_0
    have c5_2 := ((bcell hD1).1 _ _ (World.block_lt_of_cell? _ _ c5_0)).trans c5_0
    go_wp2_with fail
    refine wp_region_noPanic ?_
    refine wp_region_held_drew (S := fun w' => w'.cell? ⟨w.heap.size, 0, none⟩ = some (.int .i64 off) ∧ w'.cell? ⟨w.heap.size, 1, none⟩ = some (.string rules) ∧ w'.cell? ⟨w.heap.size, 2, none⟩ = some (.int .i64 sv) ∧ w'.cell? ⟨w.heap.size, 3, none⟩ = some (.string fmt) ∧ w'.cell? ⟨w.heap.size, 4, none⟩ = some (.int .i64 unt) ∧ w'.cell? ⟨w.heap.size, 5, none⟩ = some (.string of)) (by kernel_rfl) ⟨c0_2, c1_2, c2_2, c3_2, c4_2, c5_2⟩ (fun hHeld => ?_)
    clear hD1 c0_2 c1_2 c2_2 c3_2 c4_2 c5_2
    refine wpAnyH_take (i := 0) (v := ?vra0) rfl (by kernel_rfl) (by kernel_rfl) (by kernel_rfl) (fun _ _ _ h => h) (Or.inl ⟨by rfl, ?yra0⟩) hHeld ?zra0
    case yra0 => (intro wq hSw; (try dsimp only at hSw); go_simp; try with_reducible rfl)
    try simp only [Act.put, List.setIfInBounds_toArray, List.set_cons_zero, List.set_cons_succ]
    refine wpAnyH_take (i := 1) (v := ?vra1) rfl (by kernel_rfl) (by kernel_rfl) (by kernel_rfl) (fun _ _ _ h => h) (Or.inl ⟨by rfl, ?yra1⟩) hHeld ?zra1
    case yra1 => (intro wq hSw; (try dsimp only at hSw); go_simp; try with_reducible rfl)
    try simp only [Act.put, List.setIfInBounds_toArray, List.set_cons_zero, List.set_cons_succ]
    refine wpAnyH_take (i := 4) (v := ?vra4) rfl (by kernel_rfl) (by kernel_rfl) (by kernel_rfl) (fun _ _ _ h => h) (Or.inl ⟨by rfl, ?yra4⟩) hHeld ?zra4
    case yra4 => (intro wq hSw; (try dsimp only at hSw); go_simp; try with_reducible rfl)
    try simp only [Act.put, List.setIfInBounds_toArray, List.set_cons_zero, List.set_cons_succ]
    refine wpAnyH_take (i := 8) (v := ?vra8) rfl (by kernel_rfl) (by kernel_rfl) (by kernel_rfl) (fun _ _ _ h => h) (Or.inl ⟨by rfl, ?yra8⟩) hHeld ?zra8
    case yra8 => (intro wq hSw; (try dsimp only at hSw); go_simp; try with_reducible rfl)
    try simp only [Act.put, List.setIfInBounds_toArray, List.set_cons_zero, List.set_cons_succ]
    refine wpAnyH_take (i := 9) (v := ?vra9) rfl (by kernel_rfl) (by kernel_rfl) (by kernel_rfl) (fun _ _ _ h => h) (Or.inl ⟨by rfl, ?yra9⟩) hHeld ?zra9
    case yra9 => (intro wq hSw; (try dsimp only at hSw); go_simp; try with_reducible rfl)
    try simp only [Act.put, List.setIfInBounds_toArray, List.set_cons_zero, List.set_cons_succ]
    refine wpAnyH_ready (rs := [2]) (by kernel_rfl) (by simp) ?_
    refine AllReadyH.cons rfl (fun K hK => ?_) AllReadyH.nil
    go_simp
    refine (hO _).mono ?_
    rintro e w3 ⟨rfl, hb3⟩
    have hB3 := hB2.trans (hb3.mono hB2.size)
    obtain ⟨x0, x1, x2, x3, x4, x5⟩ := hHeld
    have c0_3 := ((bcell hb3).1 _ _ (World.block_lt_of_cell? _ _ x0)).trans x0
    have c1_3 := ((bcell hb3).1 _ _ (World.block_lt_of_cell? _ _ x1)).trans x1
    have c2_3 := ((bcell hb3).1 _ _ (World.block_lt_of_cell? _ _ x2)).trans x2
    have c3_3 := ((bcell hb3).1 _ _ (World.block_lt_of_cell? _ _ x3)).trans x3
    have c4_3 := ((bcell hb3).1 _ _ (World.block_lt_of_cell? _ _ x4)).trans x4
    have c5_3 := ((bcell hb3).1 _ _ (World.block_lt_of_cell? _ _ x5)).trans x5
    have hS := And.intro (c0_3) (And.intro (c1_3) (And.intro (c2_3) (And.intro (c3_3) (And.intro (c4_3) (c5_3)))))
    go_wp2_with fail
    refine hK.out _ _ hS (fun hHeld => ?_)
    clear hK K hb3 hB2 x0 x1 x2 x3 x4 x5
    try simp only [Act.put, List.setIfInBounds_toArray, List.set_cons_zero, List.set_cons_succ]
    refine wpAnyH_take (i := 3) (v := .string (O ++ ⟨#[32]⟩)) rfl (by kernel_rfl) (by kernel_rfl) (by kernel_rfl) (fun _ _ _ h => h) (Or.inl ⟨by rfl, ?yra3⟩) hHeld ?zra3
    case yra3 => intro wq _; go_simp; omega
    try simp only [Act.put, List.setIfInBounds_toArray, List.set_cons_zero, List.set_cons_succ]
    refine wpAnyH_ready (rs := [5]) (by kernel_rfl) (by simp) ?_
    refine AllReadyH.cons rfl (fun K hK => ?_) AllReadyH.nil
    go_simp
    refine (hDs _).mono ?_
    rintro e wx ⟨rfl, hwx⟩
    have hwy := hwx.symm
    clear hwx
    subst hwy
    go_wp2_with fail
    refine hK.out _ _ hHeld (fun hHeld => ?_)
    clear hK K
    try simp only [Act.put, List.setIfInBounds_toArray, List.set_cons_zero, List.set_cons_succ]
    refine wpAnyH_take (i := 6) (v := .string (O ++ ⟨#[32]⟩ ++ rules)) rfl (by kernel_rfl) (by kernel_rfl) (by kernel_rfl) (fun _ _ _ h => h) (Or.inl ⟨by rfl, ?yra6⟩) hHeld ?zra6
    case yra6 => intro wq _; go_simp; omega
    try simp only [Act.put, List.setIfInBounds_toArray, List.set_cons_zero, List.set_cons_succ]
    refine wpAnyH_take (i := 7) (v := .string (O ++ ⟨#[32]⟩ ++ rules ++ ⟨#[32]⟩)) rfl (by kernel_rfl) (by kernel_rfl) (by kernel_rfl) (fun _ _ _ h => h) (Or.inl ⟨by rfl, ?yra7⟩) hHeld ?zra7
    case yra7 => intro wq _; go_simp; omega
    try simp only [Act.put, List.setIfInBounds_toArray, List.set_cons_zero, List.set_cons_succ]
    refine wpAnyH_take (i := 10) (v := .string (O ++ ⟨#[32]⟩ ++ rules ++ ⟨#[32]⟩ ++ fmt)) rfl (by kernel_rfl) (by kernel_rfl) (by kernel_rfl) (fun _ _ _ h => h) (Or.inl ⟨by rfl, ?yra10⟩) hHeld ?zra10
    case yra10 => intro wq _; go_simp; omega
    try simp only [Act.put, List.setIfInBounds_toArray, List.set_cons_zero, List.set_cons_succ]
    refine wpAnyH_take (i := 11) (v := ?vra11) rfl (by kernel_rfl) (by kernel_rfl) (by kernel_rfl) (fun _ _ _ h => h) (Or.inl ⟨by rfl, ?yra11⟩) hHeld ?zra11
    case yra11 => (intro wq hSw; (try dsimp only at hSw); go_simp; try with_reducible rfl)
    try simp only [Act.put, List.setIfInBounds_toArray, List.set_cons_zero, List.set_cons_succ]
    clear hHeld hS
    try simp only [Act.put, List.getElem_toArray, List.getElem_cons_succ, List.getElem_cons_zero, List.setIfInBounds_toArray, List.set_cons_zero, List.set_cons_succ]
    refine wpAnyH_done (by kernel_rfl) ?_ _
    refine NoPanic.normal ?_
    by_cases hU : unt < 253402300799
    case neg =>
      have eT := HT2.out (by omega)
      subst eT
      go_wp2
      go_ret
      exact ⟨ret_str (by simp only [ba_nil]), hB3⟩
    have eT := HT1.out hU
    subst eT
    clear HT1 HT2
    go_wp2_with fail
    refine (hFl _).mono ?_
    rintro e wx ⟨rfl, hwx⟩
    have hwy := hwx.symm
    clear hwx
    subst hwy
    go_wp2_with fail
    refine (hDt _).mono ?_
    rintro e w4 ⟨rfl, hb4⟩
    have hB4 := hB3.trans (hb4.mono hB3.size)
    have c4_4 := ((bcell hb4).1 _ _ (World.block_lt_of_cell? _ _ c4_3)).trans c4_3
    have c5_4 := ((bcell hb4).1 _ _ (World.block_lt_of_cell? _ _ c5_3)).trans c5_3
    have hb5 := (Below.refl w4.heap.size w4).alloc (Nat.le_refl _) (.cells #[.int .i64 (y : Int), .int .i64 (m : Int), .int .i64 (d : Int)] 200)
    have hB5 := hB4.trans (hb5.mono hB4.size)
    have c4_5 := ((bcell hb5).1 _ _ (World.block_lt_of_cell? _ _ c4_4)).trans c4_4
    have c5_5 := ((bcell hb5).1 _ _ (World.block_lt_of_cell? _ _ c5_4)).trans c5_4
    have d0_5 : (w4.alloc (.cells #[.int .i64 (y : Int), .int .i64 (m : Int), .int .i64 (d : Int)] 200)).cell? ⟨w4.heap.size, 0, none⟩ = some (.int .i64 (y : Int)) := by simp [go_sem]
    have d1_5 : (w4.alloc (.cells #[.int .i64 (y : Int), .int .i64 (m : Int), .int .i64 (d : Int)] 200)).cell? ⟨w4.heap.size, 1, none⟩ = some (.int .i64 (m : Int)) := by simp [go_sem]
    have d2_5 : (w4.alloc (.cells #[.int .i64 (y : Int), .int .i64 (m : Int), .int .i64 (d : Int)] 200)).cell? ⟨w4.heap.size, 2, none⟩ = some (.int .i64 (d : Int)) := by simp [go_sem]
    clear hb4 hb5 hB3 hB4 c4_4 c5_4 c0_3 c1_3 c2_3 c3_3 c4_3 c5_3
    go_wp2_with fail
    generalize w4.alloc (.cells #[.int .i64 (y : Int), .int .i64 (m : Int), .int .i64 (d : Int)] 200) = w5 at *
    generalize w4.heap.size = bd at *
    have hD6 : Below w5.heap.size w5 w5.drew := ⟨rfl, rfl, rfl, Nat.le_refl _, fun _ _ => rfl⟩
    have hB6 := hB5.trans (hD6.mono hB5.size)
    refine wp_region_noPanic ?_
    refine wp_region_held_drew (S := fun w' => w'.cell? ⟨w.heap.size, 4, none⟩ = some (.int .i64 unt) ∧ w'.cell? ⟨w.heap.size, 5, none⟩ = some (.string of) ∧ w'.cell? ⟨bd, 0, none⟩ = some (.int .i64 (y : Int)) ∧ w'.cell? ⟨bd, 1, none⟩ = some (.int .i64 (m : Int)) ∧ w'.cell? ⟨bd, 2, none⟩ = some (.int .i64 (d : Int))) (by kernel_rfl) ⟨((bcell hD6).1 _ _ (World.block_lt_of_cell? _ _ c4_5)).trans c4_5, ((bcell hD6).1 _ _ (World.block_lt_of_cell? _ _ c5_5)).trans c5_5, ((bcell hD6).1 _ _ (World.block_lt_of_cell? _ _ d0_5)).trans d0_5, ((bcell hD6).1 _ _ (World.block_lt_of_cell? _ _ d1_5)).trans d1_5, ((bcell hD6).1 _ _ (World.block_lt_of_cell? _ _ d2_5)).trans d2_5⟩ (fun hHeld => ?_)
    clear hB5 hD6 c4_5 c5_5 d0_5 d1_5 d2_5
    refine wpAnyH_take (i := 0) (v := ?va0) rfl (by kernel_rfl) (by kernel_rfl) (by kernel_rfl) (fun _ _ _ h => h) (Or.inl ⟨by rfl, ?ya0⟩) hHeld ?za0
    case ya0 => (intro wq hSw; (try dsimp only at hSw); go_simp; try with_reducible rfl)
    try simp only [Act.put, List.setIfInBounds_toArray, List.set_cons_zero, List.set_cons_succ]
    refine wpAnyH_take (i := 2) (v := ?va2) rfl (by kernel_rfl) (by kernel_rfl) (by kernel_rfl) (fun _ _ _ h => h) (Or.inl ⟨by rfl, ?ya2⟩) hHeld ?za2
    case ya2 => (intro wq hSw; (try dsimp only at hSw); go_simp; try with_reducible rfl)
    try simp only [Act.put, List.setIfInBounds_toArray, List.set_cons_zero, List.set_cons_succ]
    refine wpAnyH_take (i := 3) (v := ?va3) rfl (by kernel_rfl) (by kernel_rfl) (by kernel_rfl) (fun _ _ _ h => h) (Or.inl ⟨by rfl, ?ya3⟩) hHeld ?za3
    case ya3 => (intro wq hSw; (try dsimp only at hSw); go_simp; try with_reducible rfl)
    try simp only [Act.put, List.setIfInBounds_toArray, List.set_cons_zero, List.set_cons_succ]
    refine wpAnyH_take (i := 8) (v := ?va8) rfl (by kernel_rfl) (by kernel_rfl) (by kernel_rfl) (fun _ _ _ h => h) (Or.inl ⟨by rfl, ?ya8⟩) hHeld ?za8
    case ya8 => (intro wq hSw; (try dsimp only at hSw); go_simp; try with_reducible rfl)
    try simp only [Act.put, List.setIfInBounds_toArray, List.set_cons_zero, List.set_cons_succ]
    refine wpAnyH_take (i := 9) (v := ?va9) rfl (by kernel_rfl) (by kernel_rfl) (by kernel_rfl) (fun _ _ _ h => h) (Or.inl ⟨by rfl, ?ya9⟩) hHeld ?za9
    case ya9 => (intro wq hSw; (try dsimp only at hSw); go_simp; try with_reducible rfl)
    try simp only [Act.put, List.setIfInBounds_toArray, List.set_cons_zero, List.set_cons_succ]
    refine wpAnyH_take (i := 10) (v := ?va10) rfl (by kernel_rfl) (by kernel_rfl) (by kernel_rfl) (fun _ _ _ h => h) (Or.inl ⟨by rfl, ?ya10⟩) hHeld ?za10
    case ya10 => (intro wq hSw; (try dsimp only at hSw); go_simp; try with_reducible rfl)
    try simp only [Act.put, List.setIfInBounds_toArray, List.set_cons_zero, List.set_cons_succ]
    refine wpAnyH_take (i := 15) (v := ?va15) rfl (by kernel_rfl) (by kernel_rfl) (by kernel_rfl) (fun _ _ _ h => h) (Or.inl ⟨by rfl, ?ya15⟩) hHeld ?za15
    case ya15 => (intro wq hSw; (try dsimp only at hSw); go_simp; try with_reducible rfl)
    try simp only [Act.put, List.setIfInBounds_toArray, List.set_cons_zero, List.set_cons_succ]
    refine wpAnyH_take (i := 16) (v := ?va16) rfl (by kernel_rfl) (by kernel_rfl) (by kernel_rfl) (fun _ _ _ h => h) (Or.inl ⟨by rfl, ?ya16⟩) hHeld ?za16
    case ya16 => (intro wq hSw; (try dsimp only at hSw); go_simp; try with_reducible rfl)
    try simp only [Act.put, List.setIfInBounds_toArray, List.set_cons_zero, List.set_cons_succ]
    refine wpAnyH_take (i := 20) (v := ?va20) rfl (by kernel_rfl) (by kernel_rfl) (by kernel_rfl) (fun _ _ _ h => h) (Or.inl ⟨by rfl, ?ya20⟩) hHeld ?za20
    case ya20 => (intro wq hSw; (try dsimp only at hSw); go_simp; try with_reducible rfl)
    try simp only [Act.put, List.setIfInBounds_toArray, List.set_cons_zero, List.set_cons_succ]
    refine wpAnyH_take (i := 21) (v := ?va21) rfl (by kernel_rfl) (by kernel_rfl) (by kernel_rfl) (fun _ _ _ h => h) (Or.inl ⟨by rfl, ?ya21⟩) hHeld ?za21
    case ya21 => (intro wq hSw; (try dsimp only at hSw); go_simp; try with_reducible rfl)
    try simp only [Act.put, List.setIfInBounds_toArray, List.set_cons_zero, List.set_cons_succ]
    refine wpAnyH_take (i := 22) (v := ?va22) rfl (by kernel_rfl) (by kernel_rfl) (by kernel_rfl) (fun _ _ _ h => h) (Or.inl ⟨by rfl, ?ya22⟩) hHeld ?za22
    case ya22 => (intro wq hSw; (try dsimp only at hSw); go_simp; try with_reducible rfl)
    try simp only [Act.put, List.setIfInBounds_toArray, List.set_cons_zero, List.set_cons_succ]
    refine wpAnyH_take (i := 23) (v := .int .i64 (86400 * dy)) rfl (by kernel_rfl) (by kernel_rfl) (by kernel_rfl) (fun _ _ _ h => h) (Or.inl ⟨by rfl, ?ya23⟩) hHeld ?za23
    case ya23 => intro wq _; go_simp; first | done | rfl | omega
    try simp only [Act.put, List.setIfInBounds_toArray, List.set_cons_zero, List.set_cons_succ]
    refine wpAnyH_take (i := 24) (v := .int .i64 ck) rfl (by kernel_rfl) (by kernel_rfl) (by kernel_rfl) (fun _ _ _ h => h) (Or.inl ⟨by rfl, ?ya24⟩) hHeld ?za24
    case ya24 => intro wq _; go_simp; first | done | rfl | omega
    try simp only [Act.put, List.setIfInBounds_toArray, List.set_cons_zero, List.set_cons_succ]
    refine wpAnyH_take (i := 25) (v := ?va25) rfl (by kernel_rfl) (by kernel_rfl) (by kernel_rfl) (fun _ _ _ h => h) (Or.inl ⟨by rfl, ?ya25⟩) hHeld ?za25
    case ya25 => (intro wq hSw; (try dsimp only at hSw); go_simp; try with_reducible rfl)
    try simp only [Act.put, List.setIfInBounds_toArray, List.set_cons_zero, List.set_cons_succ]
    refine wpAnyH_take (i := 26) (v := ?va26) rfl (by kernel_rfl) (by kernel_rfl) (by kernel_rfl) (fun _ _ _ h => h) (Or.inl ⟨by rfl, ?ya26⟩) hHeld ?za26
    case ya26 => (intro wq hSw; (try dsimp only at hSw); go_simp; try with_reducible rfl)
    try simp only [Act.put, List.setIfInBounds_toArray, List.set_cons_zero, List.set_cons_succ]
    refine wpAnyH_take (i := 1) (v := .string (O ++ ⟨#[32]⟩ ++ rules ++ ⟨#[32]⟩ ++ fmt ++ ⟨#[32]⟩)) rfl (by kernel_rfl) (by kernel_rfl) (by kernel_rfl) (fun _ _ _ h => h) (Or.inl ⟨by rfl, ?ya1⟩) hHeld ?za1
    case ya1 => intro wq _; go_simp; omega
    try simp only [Act.put, List.setIfInBounds_toArray, List.set_cons_zero, List.set_cons_succ]
    refine wpAnyH_ready (rs := [4]) (by kernel_rfl) (by simp) ?_
    refine AllReadyH.cons rfl (fun K hK => ?_) AllReadyH.nil
    go_simp
    refine (hY _).mono ?_
    rintro e w7 ⟨rfl, hb7⟩
    have hB7 := hB6.trans (hb7.mono hB6.size)
    obtain ⟨x0, x1, x2, x3, x4⟩ := hHeld
    have hS := And.intro (((bcell hb7).1 _ _ (World.block_lt_of_cell? _ _ x0)).trans x0) (And.intro (((bcell hb7).1 _ _ (World.block_lt_of_cell? _ _ x1)).trans x1) (And.intro (((bcell hb7).1 _ _ (World.block_lt_of_cell? _ _ x2)).trans x2) (And.intro (((bcell hb7).1 _ _ (World.block_lt_of_cell? _ _ x3)).trans x3) (((bcell hb7).1 _ _ (World.block_lt_of_cell? _ _ x4)).trans x4))))
    go_wp2_with fail
    refine hK.out _ _ hS (fun hHeld => ?_)
    clear hK K
    try simp only [Act.put, List.setIfInBounds_toArray, List.set_cons_zero, List.set_cons_succ]
    refine wpAnyH_take (i := 5) (v := .string (O ++ ⟨#[32]⟩ ++ rules ++ ⟨#[32]⟩ ++ fmt ++ ⟨#[32]⟩ ++ Y)) rfl (by kernel_rfl) (by kernel_rfl) (by kernel_rfl) (fun _ _ _ h => h) (Or.inl ⟨by rfl, ?ya5⟩) hHeld ?za5
    case ya5 => intro wq _; go_simp; omega
    try simp only [Act.put, List.setIfInBounds_toArray, List.set_cons_zero, List.set_cons_succ]
    refine wpAnyH_take (i := 6) (v := .string (O ++ ⟨#[32]⟩ ++ rules ++ ⟨#[32]⟩ ++ fmt ++ ⟨#[32]⟩ ++ Y ++ ⟨#[32]⟩)) rfl (by kernel_rfl) (by kernel_rfl) (by kernel_rfl) (fun _ _ _ h => h) (Or.inl ⟨by rfl, ?ya6⟩) hHeld ?za6
    case ya6 => intro wq _; go_simp; omega
    try simp only [Act.put, List.setIfInBounds_toArray, List.set_cons_zero, List.set_cons_succ]
    refine wpAnyH_ready (rs := [7]) (by kernel_rfl) (by simp) ?_
    refine AllReadyH.cons rfl (fun K hK => ?_) AllReadyH.nil
    go_simp
    refine (hM' _).mono ?_
    rintro e w8 ⟨rfl, hb8, m_8⟩
    have hB8 := hB7.trans (hb8.mono hB7.size)
    obtain ⟨x0, x1, x2, x3, x4⟩ := hHeld
    have hS := And.intro (((bcell hb8).1 _ _ (World.block_lt_of_cell? _ _ x0)).trans x0) (And.intro (((bcell hb8).1 _ _ (World.block_lt_of_cell? _ _ x1)).trans x1) (And.intro (((bcell hb8).1 _ _ (World.block_lt_of_cell? _ _ x2)).trans x2) (And.intro (((bcell hb8).1 _ _ (World.block_lt_of_cell? _ _ x3)).trans x3) (((bcell hb8).1 _ _ (World.block_lt_of_cell? _ _ x4)).trans x4))))
    go_wp2_with fail
    refine hK.out _ _ hS (fun hHeld => ?_)
    clear hK K
    try simp only [Act.put, List.setIfInBounds_toArray, List.set_cons_zero, List.set_cons_succ]
    refine wpAnyH_sub (S2 := fun w' => w'.cell? ⟨w.heap.size, 4, none⟩ = some (.int .i64 unt) ∧ w'.cell? ⟨w.heap.size, 5, none⟩ = some (.string of) ∧ w'.cell? ⟨bd, 0, none⟩ = some (.int .i64 (y : Int)) ∧ w'.cell? ⟨bd, 1, none⟩ = some (.int .i64 (m : Int)) ∧ w'.cell? ⟨bd, 2, none⟩ = some (.int .i64 (d : Int)) ∧ w'.cell? ⟨w7.heap.size, k, none⟩ = some (.string M)) (fun _ h => ⟨h.1, h.2.1, h.2.2.1, h.2.2.2.1, h.2.2.2.2.1⟩) _ _ _ _ ?_
    have hHeld : (fun w' : World => w'.cell? ⟨w.heap.size, 4, none⟩ = some (.int .i64 unt) ∧ w'.cell? ⟨w.heap.size, 5, none⟩ = some (.string of) ∧ w'.cell? ⟨bd, 0, none⟩ = some (.int .i64 (y : Int)) ∧ w'.cell? ⟨bd, 1, none⟩ = some (.int .i64 (m : Int)) ∧ w'.cell? ⟨bd, 2, none⟩ = some (.int .i64 (d : Int)) ∧ w'.cell? ⟨w7.heap.size, k, none⟩ = some (.string M)) w8 := ⟨hHeld.1, hHeld.2.1, hHeld.2.2.1, hHeld.2.2.2.1, hHeld.2.2.2.2, m_8⟩
    refine wpAnyH_take (i := 11) (v := ?va11) rfl (by kernel_rfl) (by kernel_rfl) (by kernel_rfl) (fun _ _ _ h => h) (Or.inl ⟨by rfl, ?ya11⟩) hHeld ?za11
    case ya11 => (intro wq hSw; (try dsimp only at hSw); go_simp; try with_reducible rfl)
    try simp only [Act.put, List.setIfInBounds_toArray, List.set_cons_zero, List.set_cons_succ]
    refine wpAnyH_take (i := 12) (v := ?va12) rfl (by kernel_rfl) (by kernel_rfl) (by kernel_rfl) (fun _ _ _ h => h) (Or.inl ⟨by rfl, ?ya12⟩) hHeld ?za12
    case ya12 => (intro wq hSw; (try dsimp only at hSw); go_simp; try with_reducible rfl)
    try simp only [Act.put, List.setIfInBounds_toArray, List.set_cons_zero, List.set_cons_succ]
    refine wpAnyH_take (i := 13) (v := .string (O ++ ⟨#[32]⟩ ++ rules ++ ⟨#[32]⟩ ++ fmt ++ ⟨#[32]⟩ ++ Y ++ ⟨#[32]⟩ ++ M)) rfl (by kernel_rfl) (by kernel_rfl) (by kernel_rfl) (fun _ _ _ h => h) (Or.inl ⟨by rfl, ?ya13⟩) hHeld ?za13
    case ya13 => intro wq _; go_simp; omega
    try simp only [Act.put, List.setIfInBounds_toArray, List.set_cons_zero, List.set_cons_succ]
    refine wpAnyH_take (i := 14) (v := .string (O ++ ⟨#[32]⟩ ++ rules ++ ⟨#[32]⟩ ++ fmt ++ ⟨#[32]⟩ ++ Y ++ ⟨#[32]⟩ ++ M ++ ⟨#[32]⟩)) rfl (by kernel_rfl) (by kernel_rfl) (by kernel_rfl) (fun _ _ _ h => h) (Or.inl ⟨by rfl, ?ya14⟩) hHeld ?za14
    case ya14 => intro wq _; go_simp; omega
    try simp only [Act.put, List.setIfInBounds_toArray, List.set_cons_zero, List.set_cons_succ]
    refine wpAnyH_ready (rs := [17]) (by kernel_rfl) (by simp) ?_
    refine AllReadyH.cons rfl (fun K hK => ?_) AllReadyH.nil
    go_simp
    refine (hDd _).mono ?_
    rintro e w9 ⟨rfl, hb9⟩
    have hB9 := hB8.trans (hb9.mono hB8.size)
    obtain ⟨x0, x1, x2, x3, x4, x5⟩ := hHeld
    have hS := And.intro (((bcell hb9).1 _ _ (World.block_lt_of_cell? _ _ x0)).trans x0) (And.intro (((bcell hb9).1 _ _ (World.block_lt_of_cell? _ _ x1)).trans x1) (And.intro (((bcell hb9).1 _ _ (World.block_lt_of_cell? _ _ x2)).trans x2) (And.intro (((bcell hb9).1 _ _ (World.block_lt_of_cell? _ _ x3)).trans x3) (And.intro (((bcell hb9).1 _ _ (World.block_lt_of_cell? _ _ x4)).trans x4) (((bcell hb9).1 _ _ (World.block_lt_of_cell? _ _ x5)).trans x5)))))
    go_wp2_with fail
    refine hK.out _ _ hS (fun hHeld => ?_)
    clear hK K
    try simp only [Act.put, List.setIfInBounds_toArray, List.set_cons_zero, List.set_cons_succ]
    refine wpAnyH_take (i := 18) (v := .string (O ++ ⟨#[32]⟩ ++ rules ++ ⟨#[32]⟩ ++ fmt ++ ⟨#[32]⟩ ++ Y ++ ⟨#[32]⟩ ++ M ++ ⟨#[32]⟩ ++ D)) rfl (by kernel_rfl) (by kernel_rfl) (by kernel_rfl) (fun _ _ _ h => h) (Or.inl ⟨by rfl, ?ya18⟩) hHeld ?za18
    case ya18 => intro wq _; go_simp; omega
    try simp only [Act.put, List.setIfInBounds_toArray, List.set_cons_zero, List.set_cons_succ]
    refine wpAnyH_take (i := 19) (v := .string (O ++ ⟨#[32]⟩ ++ rules ++ ⟨#[32]⟩ ++ fmt ++ ⟨#[32]⟩ ++ Y ++ ⟨#[32]⟩ ++ M ++ ⟨#[32]⟩ ++ D ++ ⟨#[32]⟩)) rfl (by kernel_rfl) (by kernel_rfl) (by kernel_rfl) (fun _ _ _ h => h) (Or.inl ⟨by rfl, ?ya19⟩) hHeld ?za19
    case ya19 => intro wq _; go_simp; omega
    try simp only [Act.put, List.setIfInBounds_toArray, List.set_cons_zero, List.set_cons_succ]
    refine wpAnyH_ready (rs := [27]) (by kernel_rfl) (by simp) ?_
    refine AllReadyH.cons rfl (fun K hK => ?_) AllReadyH.nil
    go_simp
    refine (hX _).mono ?_
    rintro e w10 ⟨rfl, hb10⟩
    have hB10 := hB9.trans (hb10.mono hB9.size)
    obtain ⟨x0, x1, x2, x3, x4, x5⟩ := hHeld
    have hS := And.intro (((bcell hb10).1 _ _ (World.block_lt_of_cell? _ _ x0)).trans x0) (And.intro (((bcell hb10).1 _ _ (World.block_lt_of_cell? _ _ x1)).trans x1) (And.intro (((bcell hb10).1 _ _ (World.block_lt_of_cell? _ _ x2)).trans x2) (And.intro (((bcell hb10).1 _ _ (World.block_lt_of_cell? _ _ x3)).trans x3) (And.intro (((bcell hb10).1 _ _ (World.block_lt_of_cell? _ _ x4)).trans x4) (((bcell hb10).1 _ _ (World.block_lt_of_cell? _ _ x5)).trans x5)))))
    go_wp2_with fail
    refine hK.out _ _ hS (fun hHeld => ?_)
    clear hK K
    try simp only [Act.put, List.setIfInBounds_toArray, List.set_cons_zero, List.set_cons_succ]
    refine wpAnyH_take (i := 28) (v := .string (O ++ ⟨#[32]⟩ ++ rules ++ ⟨#[32]⟩ ++ fmt ++ ⟨#[32]⟩ ++ Y ++ ⟨#[32]⟩ ++ M ++ ⟨#[32]⟩ ++ D ++ ⟨#[32]⟩ ++ X)) rfl (by kernel_rfl) (by kernel_rfl) (by kernel_rfl) (fun _ _ _ h => h) (Or.inl ⟨by rfl, ?ya28⟩) hHeld ?za28
    case ya28 => intro wq _; go_simp; omega
    try simp only [Act.put, List.setIfInBounds_toArray, List.set_cons_zero, List.set_cons_succ]
    refine wpAnyH_take (i := 29) (v := ?va29) rfl (by kernel_rfl) (by kernel_rfl) (by kernel_rfl) (fun _ _ _ h => h) (Or.inl ⟨by rfl, ?ya29⟩) hHeld ?za29
    case ya29 => (intro wq hSw; (try dsimp only at hSw); go_simp; try with_reducible rfl)
    try simp only [Act.put, List.setIfInBounds_toArray, List.set_cons_zero, List.set_cons_succ]
    try simp only [Act.put, List.getElem_toArray, List.getElem_cons_succ, List.getElem_cons_zero, List.setIfInBounds_toArray, List.set_cons_zero, List.set_cons_succ]
    refine wpAnyH_done (by kernel_rfl) ?_ _
    refine NoPanic.normal ?_
    go_wp2
    go_ret
    exact ⟨ret_str (by simp only [ByteArray.append_assoc]), hB10⟩
  rw [e1, if_pos rfl] at EQ
  by_cases e2 : sv = 0
  · rw [if_pos e2] at EQ
    subst EQ
    subst e2
    have hDs : ∀ w, Calls Tryz.prog 152 #[.string rules] w fun e w' => e = .returned (.string ⟨#[45]⟩) ∧ w' = w := fun w => by
      have := spec_l02Dash rules w
      unfold dashB at this
      rw [e1] at this
      exact this
    go_enter Tryz.func82, Tryz.ntmps82
    have hD1 : Below (w.alloc (.cells #[.int .i64 off, .string rules, .int .i64 0, .string fmt, .int .i64 unt, .string of] 55)).heap.size (w.alloc (.cells #[.int .i64 off, .string rules, .int .i64 0, .string fmt, .int .i64 unt, .string of] 55)) (w.alloc (.cells #[.int .i64 off, .string rules, .int .i64 0, .string fmt, .int .i64 unt, .string of] 55)).drew := ⟨rfl, rfl, rfl, Nat.le_refl _, fun _ _ => rfl⟩
    have hB2 := hB0.trans (hD1.mono hB0.size)
    have c0_2 := ((bcell hD1).1 _ _ (World.block_lt_of_cell? _ _ c0_0)).trans c0_0
    have c1_2 := ((bcell hD1).1 _ _ (World.block_lt_of_cell? _ _ c1_0)).trans c1_0
    have c2_2 := ((bcell hD1).1 _ _ (World.block_lt_of_cell? _ _ c2_0)).trans c2_0
    have c3_2 := ((bcell hD1).1 _ _ (World.block_lt_of_cell? _ _ c3_0)).trans c3_0
    have c4_2 := ((bcell hD1).1 _ _ (World.block_lt_of_cell? _ _ c4_0)).trans c4_0
    have c5_2 := ((bcell hD1).1 _ _ (World.block_lt_of_cell? _ _ c5_0)).trans c5_0
    go_wp2_with fail
    refine wp_region_noPanic ?_
    refine wp_region_held_drew (S := fun w' => w'.cell? ⟨w.heap.size, 0, none⟩ = some (.int .i64 off) ∧ w'.cell? ⟨w.heap.size, 1, none⟩ = some (.string rules) ∧ w'.cell? ⟨w.heap.size, 2, none⟩ = some (.int .i64 0) ∧ w'.cell? ⟨w.heap.size, 3, none⟩ = some (.string fmt) ∧ w'.cell? ⟨w.heap.size, 4, none⟩ = some (.int .i64 unt) ∧ w'.cell? ⟨w.heap.size, 5, none⟩ = some (.string of)) (by kernel_rfl) ⟨c0_2, c1_2, c2_2, c3_2, c4_2, c5_2⟩ (fun hHeld => ?_)
    clear hD1 c0_2 c1_2 c2_2 c3_2 c4_2 c5_2
    refine wpAnyH_take (i := 0) (v := ?vrb0) rfl (by kernel_rfl) (by kernel_rfl) (by kernel_rfl) (fun _ _ _ h => h) (Or.inl ⟨by rfl, ?yrb0⟩) hHeld ?zrb0
    case yrb0 => (intro wq hSw; (try dsimp only at hSw); go_simp; try with_reducible rfl)
    try simp only [Act.put, List.setIfInBounds_toArray, List.set_cons_zero, List.set_cons_succ]
    refine wpAnyH_take (i := 1) (v := ?vrb1) rfl (by kernel_rfl) (by kernel_rfl) (by kernel_rfl) (fun _ _ _ h => h) (Or.inl ⟨by rfl, ?yrb1⟩) hHeld ?zrb1
    case yrb1 => (intro wq hSw; (try dsimp only at hSw); go_simp; try with_reducible rfl)
    try simp only [Act.put, List.setIfInBounds_toArray, List.set_cons_zero, List.set_cons_succ]
    refine wpAnyH_take (i := 4) (v := ?vrb4) rfl (by kernel_rfl) (by kernel_rfl) (by kernel_rfl) (fun _ _ _ h => h) (Or.inl ⟨by rfl, ?yrb4⟩) hHeld ?zrb4
    case yrb4 => (intro wq hSw; (try dsimp only at hSw); go_simp; try with_reducible rfl)
    try simp only [Act.put, List.setIfInBounds_toArray, List.set_cons_zero, List.set_cons_succ]
    refine wpAnyH_take (i := 8) (v := ?vrb8) rfl (by kernel_rfl) (by kernel_rfl) (by kernel_rfl) (fun _ _ _ h => h) (Or.inl ⟨by rfl, ?yrb8⟩) hHeld ?zrb8
    case yrb8 => (intro wq hSw; (try dsimp only at hSw); go_simp; try with_reducible rfl)
    try simp only [Act.put, List.setIfInBounds_toArray, List.set_cons_zero, List.set_cons_succ]
    refine wpAnyH_take (i := 9) (v := ?vrb9) rfl (by kernel_rfl) (by kernel_rfl) (by kernel_rfl) (fun _ _ _ h => h) (Or.inl ⟨by rfl, ?yrb9⟩) hHeld ?zrb9
    case yrb9 => (intro wq hSw; (try dsimp only at hSw); go_simp; try with_reducible rfl)
    try simp only [Act.put, List.setIfInBounds_toArray, List.set_cons_zero, List.set_cons_succ]
    refine wpAnyH_ready (rs := [2]) (by kernel_rfl) (by simp) ?_
    refine AllReadyH.cons rfl (fun K hK => ?_) AllReadyH.nil
    go_simp
    refine (hO _).mono ?_
    rintro e w3 ⟨rfl, hb3⟩
    have hB3 := hB2.trans (hb3.mono hB2.size)
    obtain ⟨x0, x1, x2, x3, x4, x5⟩ := hHeld
    have c0_3 := ((bcell hb3).1 _ _ (World.block_lt_of_cell? _ _ x0)).trans x0
    have c1_3 := ((bcell hb3).1 _ _ (World.block_lt_of_cell? _ _ x1)).trans x1
    have c2_3 := ((bcell hb3).1 _ _ (World.block_lt_of_cell? _ _ x2)).trans x2
    have c3_3 := ((bcell hb3).1 _ _ (World.block_lt_of_cell? _ _ x3)).trans x3
    have c4_3 := ((bcell hb3).1 _ _ (World.block_lt_of_cell? _ _ x4)).trans x4
    have c5_3 := ((bcell hb3).1 _ _ (World.block_lt_of_cell? _ _ x5)).trans x5
    have hS := And.intro (c0_3) (And.intro (c1_3) (And.intro (c2_3) (And.intro (c3_3) (And.intro (c4_3) (c5_3)))))
    go_wp2_with fail
    refine hK.out _ _ hS (fun hHeld => ?_)
    clear hK K hb3 hB2 x0 x1 x2 x3 x4 x5
    try simp only [Act.put, List.setIfInBounds_toArray, List.set_cons_zero, List.set_cons_succ]
    refine wpAnyH_take (i := 3) (v := .string (O ++ ⟨#[32]⟩)) rfl (by kernel_rfl) (by kernel_rfl) (by kernel_rfl) (fun _ _ _ h => h) (Or.inl ⟨by rfl, ?yrb3⟩) hHeld ?zrb3
    case yrb3 => intro wq _; go_simp; omega
    try simp only [Act.put, List.setIfInBounds_toArray, List.set_cons_zero, List.set_cons_succ]
    refine wpAnyH_ready (rs := [5]) (by kernel_rfl) (by simp) ?_
    refine AllReadyH.cons rfl (fun K hK => ?_) AllReadyH.nil
    go_simp
    refine (hDs _).mono ?_
    rintro e wx ⟨rfl, hwx⟩
    have hwy := hwx.symm
    clear hwx
    subst hwy
    go_wp2_with fail
    refine hK.out _ _ hHeld (fun hHeld => ?_)
    clear hK K
    try simp only [Act.put, List.setIfInBounds_toArray, List.set_cons_zero, List.set_cons_succ]
    refine wpAnyH_take (i := 6) (v := .string (O ++ ⟨#[32]⟩ ++ ⟨#[45]⟩)) rfl (by kernel_rfl) (by kernel_rfl) (by kernel_rfl) (fun _ _ _ h => h) (Or.inl ⟨by rfl, ?yrb6⟩) hHeld ?zrb6
    case yrb6 => intro wq _; go_simp; omega
    try simp only [Act.put, List.setIfInBounds_toArray, List.set_cons_zero, List.set_cons_succ]
    refine wpAnyH_take (i := 7) (v := .string (O ++ ⟨#[32]⟩ ++ ⟨#[45]⟩ ++ ⟨#[32]⟩)) rfl (by kernel_rfl) (by kernel_rfl) (by kernel_rfl) (fun _ _ _ h => h) (Or.inl ⟨by rfl, ?yrb7⟩) hHeld ?zrb7
    case yrb7 => intro wq _; go_simp; omega
    try simp only [Act.put, List.setIfInBounds_toArray, List.set_cons_zero, List.set_cons_succ]
    refine wpAnyH_take (i := 10) (v := .string (O ++ ⟨#[32]⟩ ++ ⟨#[45]⟩ ++ ⟨#[32]⟩ ++ fmt)) rfl (by kernel_rfl) (by kernel_rfl) (by kernel_rfl) (fun _ _ _ h => h) (Or.inl ⟨by rfl, ?yrb10⟩) hHeld ?zrb10
    case yrb10 => intro wq _; go_simp; omega
    try simp only [Act.put, List.setIfInBounds_toArray, List.set_cons_zero, List.set_cons_succ]
    refine wpAnyH_take (i := 11) (v := ?vrb11) rfl (by kernel_rfl) (by kernel_rfl) (by kernel_rfl) (fun _ _ _ h => h) (Or.inl ⟨by rfl, ?yrb11⟩) hHeld ?zrb11
    case yrb11 => (intro wq hSw; (try dsimp only at hSw); go_simp; try with_reducible rfl)
    try simp only [Act.put, List.setIfInBounds_toArray, List.set_cons_zero, List.set_cons_succ]
    clear hHeld hS
    try simp only [Act.put, List.getElem_toArray, List.getElem_cons_succ, List.getElem_cons_zero, List.setIfInBounds_toArray, List.set_cons_zero, List.set_cons_succ]
    refine wpAnyH_done (by kernel_rfl) ?_ _
    refine NoPanic.normal ?_
    by_cases hU : unt < 253402300799
    case neg =>
      have eT := HT2.out (by omega)
      subst eT
      go_wp2
      go_ret
      exact ⟨ret_str (by simp only [ba_nil]), hB3⟩
    have eT := HT1.out hU
    subst eT
    clear HT1 HT2
    go_wp2_with fail
    refine (hFl _).mono ?_
    rintro e wx ⟨rfl, hwx⟩
    have hwy := hwx.symm
    clear hwx
    subst hwy
    go_wp2_with fail
    refine (hDt _).mono ?_
    rintro e w4 ⟨rfl, hb4⟩
    have hB4 := hB3.trans (hb4.mono hB3.size)
    have c4_4 := ((bcell hb4).1 _ _ (World.block_lt_of_cell? _ _ c4_3)).trans c4_3
    have c5_4 := ((bcell hb4).1 _ _ (World.block_lt_of_cell? _ _ c5_3)).trans c5_3
    have hb5 := (Below.refl w4.heap.size w4).alloc (Nat.le_refl _) (.cells #[.int .i64 (y : Int), .int .i64 (m : Int), .int .i64 (d : Int)] 200)
    have hB5 := hB4.trans (hb5.mono hB4.size)
    have c4_5 := ((bcell hb5).1 _ _ (World.block_lt_of_cell? _ _ c4_4)).trans c4_4
    have c5_5 := ((bcell hb5).1 _ _ (World.block_lt_of_cell? _ _ c5_4)).trans c5_4
    have d0_5 : (w4.alloc (.cells #[.int .i64 (y : Int), .int .i64 (m : Int), .int .i64 (d : Int)] 200)).cell? ⟨w4.heap.size, 0, none⟩ = some (.int .i64 (y : Int)) := by simp [go_sem]
    have d1_5 : (w4.alloc (.cells #[.int .i64 (y : Int), .int .i64 (m : Int), .int .i64 (d : Int)] 200)).cell? ⟨w4.heap.size, 1, none⟩ = some (.int .i64 (m : Int)) := by simp [go_sem]
    have d2_5 : (w4.alloc (.cells #[.int .i64 (y : Int), .int .i64 (m : Int), .int .i64 (d : Int)] 200)).cell? ⟨w4.heap.size, 2, none⟩ = some (.int .i64 (d : Int)) := by simp [go_sem]
    clear hb4 hb5 hB3 hB4 c4_4 c5_4 c0_3 c1_3 c2_3 c3_3 c4_3 c5_3
    go_wp2_with fail
    generalize w4.alloc (.cells #[.int .i64 (y : Int), .int .i64 (m : Int), .int .i64 (d : Int)] 200) = w5 at *
    generalize w4.heap.size = bd at *
    have hD6 : Below w5.heap.size w5 w5.drew := ⟨rfl, rfl, rfl, Nat.le_refl _, fun _ _ => rfl⟩
    have hB6 := hB5.trans (hD6.mono hB5.size)
    refine wp_region_noPanic ?_
    refine wp_region_held_drew (S := fun w' => w'.cell? ⟨w.heap.size, 4, none⟩ = some (.int .i64 unt) ∧ w'.cell? ⟨w.heap.size, 5, none⟩ = some (.string of) ∧ w'.cell? ⟨bd, 0, none⟩ = some (.int .i64 (y : Int)) ∧ w'.cell? ⟨bd, 1, none⟩ = some (.int .i64 (m : Int)) ∧ w'.cell? ⟨bd, 2, none⟩ = some (.int .i64 (d : Int))) (by kernel_rfl) ⟨((bcell hD6).1 _ _ (World.block_lt_of_cell? _ _ c4_5)).trans c4_5, ((bcell hD6).1 _ _ (World.block_lt_of_cell? _ _ c5_5)).trans c5_5, ((bcell hD6).1 _ _ (World.block_lt_of_cell? _ _ d0_5)).trans d0_5, ((bcell hD6).1 _ _ (World.block_lt_of_cell? _ _ d1_5)).trans d1_5, ((bcell hD6).1 _ _ (World.block_lt_of_cell? _ _ d2_5)).trans d2_5⟩ (fun hHeld => ?_)
    clear hB5 hD6 c4_5 c5_5 d0_5 d1_5 d2_5
    refine wpAnyH_take (i := 0) (v := ?vb0) rfl (by kernel_rfl) (by kernel_rfl) (by kernel_rfl) (fun _ _ _ h => h) (Or.inl ⟨by rfl, ?yb0⟩) hHeld ?zb0
    case yb0 => (intro wq hSw; (try dsimp only at hSw); go_simp; try with_reducible rfl)
    try simp only [Act.put, List.setIfInBounds_toArray, List.set_cons_zero, List.set_cons_succ]
    refine wpAnyH_take (i := 2) (v := ?vb2) rfl (by kernel_rfl) (by kernel_rfl) (by kernel_rfl) (fun _ _ _ h => h) (Or.inl ⟨by rfl, ?yb2⟩) hHeld ?zb2
    case yb2 => (intro wq hSw; (try dsimp only at hSw); go_simp; try with_reducible rfl)
    try simp only [Act.put, List.setIfInBounds_toArray, List.set_cons_zero, List.set_cons_succ]
    refine wpAnyH_take (i := 3) (v := ?vb3) rfl (by kernel_rfl) (by kernel_rfl) (by kernel_rfl) (fun _ _ _ h => h) (Or.inl ⟨by rfl, ?yb3⟩) hHeld ?zb3
    case yb3 => (intro wq hSw; (try dsimp only at hSw); go_simp; try with_reducible rfl)
    try simp only [Act.put, List.setIfInBounds_toArray, List.set_cons_zero, List.set_cons_succ]
    refine wpAnyH_take (i := 8) (v := ?vb8) rfl (by kernel_rfl) (by kernel_rfl) (by kernel_rfl) (fun _ _ _ h => h) (Or.inl ⟨by rfl, ?yb8⟩) hHeld ?zb8
    case yb8 => (intro wq hSw; (try dsimp only at hSw); go_simp; try with_reducible rfl)
    try simp only [Act.put, List.setIfInBounds_toArray, List.set_cons_zero, List.set_cons_succ]
    refine wpAnyH_take (i := 9) (v := ?vb9) rfl (by kernel_rfl) (by kernel_rfl) (by kernel_rfl) (fun _ _ _ h => h) (Or.inl ⟨by rfl, ?yb9⟩) hHeld ?zb9
    case yb9 => (intro wq hSw; (try dsimp only at hSw); go_simp; try with_reducible rfl)
    try simp only [Act.put, List.setIfInBounds_toArray, List.set_cons_zero, List.set_cons_succ]
    refine wpAnyH_take (i := 10) (v := ?vb10) rfl (by kernel_rfl) (by kernel_rfl) (by kernel_rfl) (fun _ _ _ h => h) (Or.inl ⟨by rfl, ?yb10⟩) hHeld ?zb10
    case yb10 => (intro wq hSw; (try dsimp only at hSw); go_simp; try with_reducible rfl)
    try simp only [Act.put, List.setIfInBounds_toArray, List.set_cons_zero, List.set_cons_succ]
    refine wpAnyH_take (i := 15) (v := ?vb15) rfl (by kernel_rfl) (by kernel_rfl) (by kernel_rfl) (fun _ _ _ h => h) (Or.inl ⟨by rfl, ?yb15⟩) hHeld ?zb15
    case yb15 => (intro wq hSw; (try dsimp only at hSw); go_simp; try with_reducible rfl)
    try simp only [Act.put, List.setIfInBounds_toArray, List.set_cons_zero, List.set_cons_succ]
    refine wpAnyH_take (i := 16) (v := ?vb16) rfl (by kernel_rfl) (by kernel_rfl) (by kernel_rfl) (fun _ _ _ h => h) (Or.inl ⟨by rfl, ?yb16⟩) hHeld ?zb16
    case yb16 => (intro wq hSw; (try dsimp only at hSw); go_simp; try with_reducible rfl)
    try simp only [Act.put, List.setIfInBounds_toArray, List.set_cons_zero, List.set_cons_succ]
    refine wpAnyH_take (i := 20) (v := ?vb20) rfl (by kernel_rfl) (by kernel_rfl) (by kernel_rfl) (fun _ _ _ h => h) (Or.inl ⟨by rfl, ?yb20⟩) hHeld ?zb20
    case yb20 => (intro wq hSw; (try dsimp only at hSw); go_simp; try with_reducible rfl)
    try simp only [Act.put, List.setIfInBounds_toArray, List.set_cons_zero, List.set_cons_succ]
    refine wpAnyH_take (i := 21) (v := ?vb21) rfl (by kernel_rfl) (by kernel_rfl) (by kernel_rfl) (fun _ _ _ h => h) (Or.inl ⟨by rfl, ?yb21⟩) hHeld ?zb21
    case yb21 => (intro wq hSw; (try dsimp only at hSw); go_simp; try with_reducible rfl)
    try simp only [Act.put, List.setIfInBounds_toArray, List.set_cons_zero, List.set_cons_succ]
    refine wpAnyH_take (i := 22) (v := ?vb22) rfl (by kernel_rfl) (by kernel_rfl) (by kernel_rfl) (fun _ _ _ h => h) (Or.inl ⟨by rfl, ?yb22⟩) hHeld ?zb22
    case yb22 => (intro wq hSw; (try dsimp only at hSw); go_simp; try with_reducible rfl)
    try simp only [Act.put, List.setIfInBounds_toArray, List.set_cons_zero, List.set_cons_succ]
    refine wpAnyH_take (i := 23) (v := .int .i64 (86400 * dy)) rfl (by kernel_rfl) (by kernel_rfl) (by kernel_rfl) (fun _ _ _ h => h) (Or.inl ⟨by rfl, ?yb23⟩) hHeld ?zb23
    case yb23 => intro wq _; go_simp; first | done | rfl | omega
    try simp only [Act.put, List.setIfInBounds_toArray, List.set_cons_zero, List.set_cons_succ]
    refine wpAnyH_take (i := 24) (v := .int .i64 ck) rfl (by kernel_rfl) (by kernel_rfl) (by kernel_rfl) (fun _ _ _ h => h) (Or.inl ⟨by rfl, ?yb24⟩) hHeld ?zb24
    case yb24 => intro wq _; go_simp; first | done | rfl | omega
    try simp only [Act.put, List.setIfInBounds_toArray, List.set_cons_zero, List.set_cons_succ]
    refine wpAnyH_take (i := 25) (v := ?vb25) rfl (by kernel_rfl) (by kernel_rfl) (by kernel_rfl) (fun _ _ _ h => h) (Or.inl ⟨by rfl, ?yb25⟩) hHeld ?zb25
    case yb25 => (intro wq hSw; (try dsimp only at hSw); go_simp; try with_reducible rfl)
    try simp only [Act.put, List.setIfInBounds_toArray, List.set_cons_zero, List.set_cons_succ]
    refine wpAnyH_take (i := 26) (v := ?vb26) rfl (by kernel_rfl) (by kernel_rfl) (by kernel_rfl) (fun _ _ _ h => h) (Or.inl ⟨by rfl, ?yb26⟩) hHeld ?zb26
    case yb26 => (intro wq hSw; (try dsimp only at hSw); go_simp; try with_reducible rfl)
    try simp only [Act.put, List.setIfInBounds_toArray, List.set_cons_zero, List.set_cons_succ]
    refine wpAnyH_take (i := 1) (v := .string (O ++ ⟨#[32]⟩ ++ ⟨#[45]⟩ ++ ⟨#[32]⟩ ++ fmt ++ ⟨#[32]⟩)) rfl (by kernel_rfl) (by kernel_rfl) (by kernel_rfl) (fun _ _ _ h => h) (Or.inl ⟨by rfl, ?yb1⟩) hHeld ?zb1
    case yb1 => intro wq _; go_simp; omega
    try simp only [Act.put, List.setIfInBounds_toArray, List.set_cons_zero, List.set_cons_succ]
    refine wpAnyH_ready (rs := [4]) (by kernel_rfl) (by simp) ?_
    refine AllReadyH.cons rfl (fun K hK => ?_) AllReadyH.nil
    go_simp
    refine (hY _).mono ?_
    rintro e w7 ⟨rfl, hb7⟩
    have hB7 := hB6.trans (hb7.mono hB6.size)
    obtain ⟨x0, x1, x2, x3, x4⟩ := hHeld
    have hS := And.intro (((bcell hb7).1 _ _ (World.block_lt_of_cell? _ _ x0)).trans x0) (And.intro (((bcell hb7).1 _ _ (World.block_lt_of_cell? _ _ x1)).trans x1) (And.intro (((bcell hb7).1 _ _ (World.block_lt_of_cell? _ _ x2)).trans x2) (And.intro (((bcell hb7).1 _ _ (World.block_lt_of_cell? _ _ x3)).trans x3) (((bcell hb7).1 _ _ (World.block_lt_of_cell? _ _ x4)).trans x4))))
    go_wp2_with fail
    refine hK.out _ _ hS (fun hHeld => ?_)
    clear hK K
    try simp only [Act.put, List.setIfInBounds_toArray, List.set_cons_zero, List.set_cons_succ]
    refine wpAnyH_take (i := 5) (v := .string (O ++ ⟨#[32]⟩ ++ ⟨#[45]⟩ ++ ⟨#[32]⟩ ++ fmt ++ ⟨#[32]⟩ ++ Y)) rfl (by kernel_rfl) (by kernel_rfl) (by kernel_rfl) (fun _ _ _ h => h) (Or.inl ⟨by rfl, ?yb5⟩) hHeld ?zb5
    case yb5 => intro wq _; go_simp; omega
    try simp only [Act.put, List.setIfInBounds_toArray, List.set_cons_zero, List.set_cons_succ]
    refine wpAnyH_take (i := 6) (v := .string (O ++ ⟨#[32]⟩ ++ ⟨#[45]⟩ ++ ⟨#[32]⟩ ++ fmt ++ ⟨#[32]⟩ ++ Y ++ ⟨#[32]⟩)) rfl (by kernel_rfl) (by kernel_rfl) (by kernel_rfl) (fun _ _ _ h => h) (Or.inl ⟨by rfl, ?yb6⟩) hHeld ?zb6
    case yb6 => intro wq _; go_simp; omega
    try simp only [Act.put, List.setIfInBounds_toArray, List.set_cons_zero, List.set_cons_succ]
    refine wpAnyH_ready (rs := [7]) (by kernel_rfl) (by simp) ?_
    refine AllReadyH.cons rfl (fun K hK => ?_) AllReadyH.nil
    go_simp
    refine (hM' _).mono ?_
    rintro e w8 ⟨rfl, hb8, m_8⟩
    have hB8 := hB7.trans (hb8.mono hB7.size)
    obtain ⟨x0, x1, x2, x3, x4⟩ := hHeld
    have hS := And.intro (((bcell hb8).1 _ _ (World.block_lt_of_cell? _ _ x0)).trans x0) (And.intro (((bcell hb8).1 _ _ (World.block_lt_of_cell? _ _ x1)).trans x1) (And.intro (((bcell hb8).1 _ _ (World.block_lt_of_cell? _ _ x2)).trans x2) (And.intro (((bcell hb8).1 _ _ (World.block_lt_of_cell? _ _ x3)).trans x3) (((bcell hb8).1 _ _ (World.block_lt_of_cell? _ _ x4)).trans x4))))
    go_wp2_with fail
    refine hK.out _ _ hS (fun hHeld => ?_)
    clear hK K
    try simp only [Act.put, List.setIfInBounds_toArray, List.set_cons_zero, List.set_cons_succ]
    refine wpAnyH_sub (S2 := fun w' => w'.cell? ⟨w.heap.size, 4, none⟩ = some (.int .i64 unt) ∧ w'.cell? ⟨w.heap.size, 5, none⟩ = some (.string of) ∧ w'.cell? ⟨bd, 0, none⟩ = some (.int .i64 (y : Int)) ∧ w'.cell? ⟨bd, 1, none⟩ = some (.int .i64 (m : Int)) ∧ w'.cell? ⟨bd, 2, none⟩ = some (.int .i64 (d : Int)) ∧ w'.cell? ⟨w7.heap.size, k, none⟩ = some (.string M)) (fun _ h => ⟨h.1, h.2.1, h.2.2.1, h.2.2.2.1, h.2.2.2.2.1⟩) _ _ _ _ ?_
    have hHeld : (fun w' : World => w'.cell? ⟨w.heap.size, 4, none⟩ = some (.int .i64 unt) ∧ w'.cell? ⟨w.heap.size, 5, none⟩ = some (.string of) ∧ w'.cell? ⟨bd, 0, none⟩ = some (.int .i64 (y : Int)) ∧ w'.cell? ⟨bd, 1, none⟩ = some (.int .i64 (m : Int)) ∧ w'.cell? ⟨bd, 2, none⟩ = some (.int .i64 (d : Int)) ∧ w'.cell? ⟨w7.heap.size, k, none⟩ = some (.string M)) w8 := ⟨hHeld.1, hHeld.2.1, hHeld.2.2.1, hHeld.2.2.2.1, hHeld.2.2.2.2, m_8⟩
    refine wpAnyH_take (i := 11) (v := ?vb11) rfl (by kernel_rfl) (by kernel_rfl) (by kernel_rfl) (fun _ _ _ h => h) (Or.inl ⟨by rfl, ?yb11⟩) hHeld ?zb11
    case yb11 => (intro wq hSw; (try dsimp only at hSw); go_simp; try with_reducible rfl)
    try simp only [Act.put, List.setIfInBounds_toArray, List.set_cons_zero, List.set_cons_succ]
    refine wpAnyH_take (i := 12) (v := ?vb12) rfl (by kernel_rfl) (by kernel_rfl) (by kernel_rfl) (fun _ _ _ h => h) (Or.inl ⟨by rfl, ?yb12⟩) hHeld ?zb12
    case yb12 => (intro wq hSw; (try dsimp only at hSw); go_simp; try with_reducible rfl)
    try simp only [Act.put, List.setIfInBounds_toArray, List.set_cons_zero, List.set_cons_succ]
    refine wpAnyH_take (i := 13) (v := .string (O ++ ⟨#[32]⟩ ++ ⟨#[45]⟩ ++ ⟨#[32]⟩ ++ fmt ++ ⟨#[32]⟩ ++ Y ++ ⟨#[32]⟩ ++ M)) rfl (by kernel_rfl) (by kernel_rfl) (by kernel_rfl) (fun _ _ _ h => h) (Or.inl ⟨by rfl, ?yb13⟩) hHeld ?zb13
    case yb13 => intro wq _; go_simp; omega
    try simp only [Act.put, List.setIfInBounds_toArray, List.set_cons_zero, List.set_cons_succ]
    refine wpAnyH_take (i := 14) (v := .string (O ++ ⟨#[32]⟩ ++ ⟨#[45]⟩ ++ ⟨#[32]⟩ ++ fmt ++ ⟨#[32]⟩ ++ Y ++ ⟨#[32]⟩ ++ M ++ ⟨#[32]⟩)) rfl (by kernel_rfl) (by kernel_rfl) (by kernel_rfl) (fun _ _ _ h => h) (Or.inl ⟨by rfl, ?yb14⟩) hHeld ?zb14
    case yb14 => intro wq _; go_simp; omega
    try simp only [Act.put, List.setIfInBounds_toArray, List.set_cons_zero, List.set_cons_succ]
    refine wpAnyH_ready (rs := [17]) (by kernel_rfl) (by simp) ?_
    refine AllReadyH.cons rfl (fun K hK => ?_) AllReadyH.nil
    go_simp
    refine (hDd _).mono ?_
    rintro e w9 ⟨rfl, hb9⟩
    have hB9 := hB8.trans (hb9.mono hB8.size)
    obtain ⟨x0, x1, x2, x3, x4, x5⟩ := hHeld
    have hS := And.intro (((bcell hb9).1 _ _ (World.block_lt_of_cell? _ _ x0)).trans x0) (And.intro (((bcell hb9).1 _ _ (World.block_lt_of_cell? _ _ x1)).trans x1) (And.intro (((bcell hb9).1 _ _ (World.block_lt_of_cell? _ _ x2)).trans x2) (And.intro (((bcell hb9).1 _ _ (World.block_lt_of_cell? _ _ x3)).trans x3) (And.intro (((bcell hb9).1 _ _ (World.block_lt_of_cell? _ _ x4)).trans x4) (((bcell hb9).1 _ _ (World.block_lt_of_cell? _ _ x5)).trans x5)))))
    go_wp2_with fail
    refine hK.out _ _ hS (fun hHeld => ?_)
    clear hK K
    try simp only [Act.put, List.setIfInBounds_toArray, List.set_cons_zero, List.set_cons_succ]
    refine wpAnyH_take (i := 18) (v := .string (O ++ ⟨#[32]⟩ ++ ⟨#[45]⟩ ++ ⟨#[32]⟩ ++ fmt ++ ⟨#[32]⟩ ++ Y ++ ⟨#[32]⟩ ++ M ++ ⟨#[32]⟩ ++ D)) rfl (by kernel_rfl) (by kernel_rfl) (by kernel_rfl) (fun _ _ _ h => h) (Or.inl ⟨by rfl, ?yb18⟩) hHeld ?zb18
    case yb18 => intro wq _; go_simp; omega
    try simp only [Act.put, List.setIfInBounds_toArray, List.set_cons_zero, List.set_cons_succ]
    refine wpAnyH_take (i := 19) (v := .string (O ++ ⟨#[32]⟩ ++ ⟨#[45]⟩ ++ ⟨#[32]⟩ ++ fmt ++ ⟨#[32]⟩ ++ Y ++ ⟨#[32]⟩ ++ M ++ ⟨#[32]⟩ ++ D ++ ⟨#[32]⟩)) rfl (by kernel_rfl) (by kernel_rfl) (by kernel_rfl) (fun _ _ _ h => h) (Or.inl ⟨by rfl, ?yb19⟩) hHeld ?zb19
    case yb19 => intro wq _; go_simp; omega
    try simp only [Act.put, List.setIfInBounds_toArray, List.set_cons_zero, List.set_cons_succ]
    refine wpAnyH_ready (rs := [27]) (by kernel_rfl) (by simp) ?_
    refine AllReadyH.cons rfl (fun K hK => ?_) AllReadyH.nil
    go_simp
    refine (hX _).mono ?_
    rintro e w10 ⟨rfl, hb10⟩
    have hB10 := hB9.trans (hb10.mono hB9.size)
    obtain ⟨x0, x1, x2, x3, x4, x5⟩ := hHeld
    have hS := And.intro (((bcell hb10).1 _ _ (World.block_lt_of_cell? _ _ x0)).trans x0) (And.intro (((bcell hb10).1 _ _ (World.block_lt_of_cell? _ _ x1)).trans x1) (And.intro (((bcell hb10).1 _ _ (World.block_lt_of_cell? _ _ x2)).trans x2) (And.intro (((bcell hb10).1 _ _ (World.block_lt_of_cell? _ _ x3)).trans x3) (And.intro (((bcell hb10).1 _ _ (World.block_lt_of_cell? _ _ x4)).trans x4) (((bcell hb10).1 _ _ (World.block_lt_of_cell? _ _ x5)).trans x5)))))
    go_wp2_with fail
    refine hK.out _ _ hS (fun hHeld => ?_)
    clear hK K
    try simp only [Act.put, List.setIfInBounds_toArray, List.set_cons_zero, List.set_cons_succ]
    refine wpAnyH_take (i := 28) (v := .string (O ++ ⟨#[32]⟩ ++ ⟨#[45]⟩ ++ ⟨#[32]⟩ ++ fmt ++ ⟨#[32]⟩ ++ Y ++ ⟨#[32]⟩ ++ M ++ ⟨#[32]⟩ ++ D ++ ⟨#[32]⟩ ++ X)) rfl (by kernel_rfl) (by kernel_rfl) (by kernel_rfl) (fun _ _ _ h => h) (Or.inl ⟨by rfl, ?yb28⟩) hHeld ?zb28
    case yb28 => intro wq _; go_simp; omega
    try simp only [Act.put, List.setIfInBounds_toArray, List.set_cons_zero, List.set_cons_succ]
    refine wpAnyH_take (i := 29) (v := ?vb29) rfl (by kernel_rfl) (by kernel_rfl) (by kernel_rfl) (fun _ _ _ h => h) (Or.inl ⟨by rfl, ?yb29⟩) hHeld ?zb29
    case yb29 => (intro wq hSw; (try dsimp only at hSw); go_simp; try with_reducible rfl)
    try simp only [Act.put, List.setIfInBounds_toArray, List.set_cons_zero, List.set_cons_succ]
    try simp only [Act.put, List.getElem_toArray, List.getElem_cons_succ, List.getElem_cons_zero, List.setIfInBounds_toArray, List.set_cons_zero, List.set_cons_succ]
    refine wpAnyH_done (by kernel_rfl) ?_ _
    refine NoPanic.normal ?_
    go_wp2
    go_ret
    exact ⟨ret_str (by simp only [ByteArray.append_assoc]), hB10⟩
  rw [if_neg e2] at EQ
  subst EQ
  have e2' : (sv == 0) = false := by simp [e2]
  have hDs : ∀ w, Calls Tryz.prog 152 #[.string R] w fun e w' => e = .returned (.string R) ∧ w' = w := fun w => by
    have := spec_l02Dash R w
    unfold dashB at this
    rw [EN] at this
    exact this
  go_enter Tryz.func82, Tryz.ntmps82
  go_wp2_with fail
  refine (hOs _).mono ?_
  rintro e w1 ⟨rfl, hb1⟩
  have hB1 := hB0.trans (hb1.mono hB0.size)
  have c0_1 := ((bcell hb1).1 _ _ (World.block_lt_of_cell? _ _ c0_0)).trans c0_0
  have c1_1 := ((bcell hb1).1 _ _ (World.block_lt_of_cell? _ _ c1_0)).trans c1_0
  have c2_1 := ((bcell hb1).1 _ _ (World.block_lt_of_cell? _ _ c2_0)).trans c2_0
  have c3_1 := ((bcell hb1).1 _ _ (World.block_lt_of_cell? _ _ c3_0)).trans c3_0
  have c4_1 := ((bcell hb1).1 _ _ (World.block_lt_of_cell? _ _ c4_0)).trans c4_0
  have c5_1 := ((bcell hb1).1 _ _ (World.block_lt_of_cell? _ _ c5_0)).trans c5_0
  clear hb1
  have hD1 : Below w1.heap.size w1 w1.drew := ⟨rfl, rfl, rfl, Nat.le_refl _, fun _ _ => rfl⟩
  have hB2 := hB1.trans (hD1.mono hB1.size)
  have c0_2 := ((bcell hD1).1 _ _ (World.block_lt_of_cell? _ _ c0_1)).trans c0_1
  have c1_2 := ((bcell hD1).1 _ _ (World.block_lt_of_cell? _ _ c1_1)).trans c1_1
  have c2_2 := ((bcell hD1).1 _ _ (World.block_lt_of_cell? _ _ c2_1)).trans c2_1
  have c3_2 := ((bcell hD1).1 _ _ (World.block_lt_of_cell? _ _ c3_1)).trans c3_1
  have c4_2 := ((bcell hD1).1 _ _ (World.block_lt_of_cell? _ _ c4_1)).trans c4_1
  have c5_2 := ((bcell hD1).1 _ _ (World.block_lt_of_cell? _ _ c5_1)).trans c5_1
  go_wp2_with fail
  refine wp_region_noPanic ?_
  refine wp_region_held_drew (S := fun w' => w'.cell? ⟨w.heap.size, 0, none⟩ = some (.int .i64 off) ∧ w'.cell? ⟨w.heap.size, 1, none⟩ = some (.string rules) ∧ w'.cell? ⟨w.heap.size, 2, none⟩ = some (.int .i64 sv) ∧ w'.cell? ⟨w.heap.size, 3, none⟩ = some (.string fmt) ∧ w'.cell? ⟨w.heap.size, 4, none⟩ = some (.int .i64 unt) ∧ w'.cell? ⟨w.heap.size, 5, none⟩ = some (.string of)) (by kernel_rfl) ⟨c0_2, c1_2, c2_2, c3_2, c4_2, c5_2⟩ (fun hHeld => ?_)
  clear hD1 c0_2 c1_2 c2_2 c3_2 c4_2 c5_2
  refine wpAnyH_take (i := 0) (v := ?vrc0) rfl (by kernel_rfl) (by kernel_rfl) (by kernel_rfl) (fun _ _ _ h => h) (Or.inl ⟨by rfl, ?yrc0⟩) hHeld ?zrc0
  case yrc0 => (intro wq hSw; (try dsimp only at hSw); go_simp; try with_reducible rfl)
  try simp only [Act.put, List.setIfInBounds_toArray, List.set_cons_zero, List.set_cons_succ]
  refine wpAnyH_take (i := 1) (v := ?vrc1) rfl (by kernel_rfl) (by kernel_rfl) (by kernel_rfl) (fun _ _ _ h => h) (Or.inl ⟨by rfl, ?yrc1⟩) hHeld ?zrc1
  case yrc1 => (intro wq hSw; (try dsimp only at hSw); go_simp; try with_reducible rfl)
  try simp only [Act.put, List.setIfInBounds_toArray, List.set_cons_zero, List.set_cons_succ]
  refine wpAnyH_take (i := 4) (v := ?vrc4) rfl (by kernel_rfl) (by kernel_rfl) (by kernel_rfl) (fun _ _ _ h => h) (Or.inl ⟨by rfl, ?yrc4⟩) hHeld ?zrc4
  case yrc4 => (intro wq hSw; (try dsimp only at hSw); go_simp; try with_reducible rfl)
  try simp only [Act.put, List.setIfInBounds_toArray, List.set_cons_zero, List.set_cons_succ]
  refine wpAnyH_take (i := 8) (v := ?vrc8) rfl (by kernel_rfl) (by kernel_rfl) (by kernel_rfl) (fun _ _ _ h => h) (Or.inl ⟨by rfl, ?yrc8⟩) hHeld ?zrc8
  case yrc8 => (intro wq hSw; (try dsimp only at hSw); go_simp; try with_reducible rfl)
  try simp only [Act.put, List.setIfInBounds_toArray, List.set_cons_zero, List.set_cons_succ]
  refine wpAnyH_take (i := 9) (v := ?vrc9) rfl (by kernel_rfl) (by kernel_rfl) (by kernel_rfl) (fun _ _ _ h => h) (Or.inl ⟨by rfl, ?yrc9⟩) hHeld ?zrc9
  case yrc9 => (intro wq hSw; (try dsimp only at hSw); go_simp; try with_reducible rfl)
  try simp only [Act.put, List.setIfInBounds_toArray, List.set_cons_zero, List.set_cons_succ]
  refine wpAnyH_ready (rs := [2]) (by kernel_rfl) (by simp) ?_
  refine AllReadyH.cons rfl (fun K hK => ?_) AllReadyH.nil
  go_simp
  refine (hO _).mono ?_
  rintro e w3 ⟨rfl, hb3⟩
  have hB3 := hB2.trans (hb3.mono hB2.size)
  obtain ⟨x0, x1, x2, x3, x4, x5⟩ := hHeld
  have c0_3 := ((bcell hb3).1 _ _ (World.block_lt_of_cell? _ _ x0)).trans x0
  have c1_3 := ((bcell hb3).1 _ _ (World.block_lt_of_cell? _ _ x1)).trans x1
  have c2_3 := ((bcell hb3).1 _ _ (World.block_lt_of_cell? _ _ x2)).trans x2
  have c3_3 := ((bcell hb3).1 _ _ (World.block_lt_of_cell? _ _ x3)).trans x3
  have c4_3 := ((bcell hb3).1 _ _ (World.block_lt_of_cell? _ _ x4)).trans x4
  have c5_3 := ((bcell hb3).1 _ _ (World.block_lt_of_cell? _ _ x5)).trans x5
  have hS := And.intro (c0_3) (And.intro (c1_3) (And.intro (c2_3) (And.intro (c3_3) (And.intro (c4_3) (c5_3)))))
  go_wp2_with fail
  refine hK.out _ _ hS (fun hHeld => ?_)
  clear hK K hb3 hB2 x0 x1 x2 x3 x4 x5
  try simp only [Act.put, List.setIfInBounds_toArray, List.set_cons_zero, List.set_cons_succ]
  refine wpAnyH_take (i := 3) (v := .string (O ++ ⟨#[32]⟩)) rfl (by kernel_rfl) (by kernel_rfl) (by kernel_rfl) (fun _ _ _ h => h) (Or.inl ⟨by rfl, ?yrc3⟩) hHeld ?zrc3
  case yrc3 => intro wq _; go_simp; omega
  try simp only [Act.put, List.setIfInBounds_toArray, List.set_cons_zero, List.set_cons_succ]
  refine wpAnyH_ready (rs := [5]) (by kernel_rfl) (by simp) ?_
  refine AllReadyH.cons rfl (fun K hK => ?_) AllReadyH.nil
  go_simp
  refine (hDs _).mono ?_
  rintro e wx ⟨rfl, hwx⟩
  have hwy := hwx.symm
  clear hwx
  subst hwy
  go_wp2_with fail
  refine hK.out _ _ hHeld (fun hHeld => ?_)
  clear hK K
  try simp only [Act.put, List.setIfInBounds_toArray, List.set_cons_zero, List.set_cons_succ]
  refine wpAnyH_take (i := 6) (v := .string (O ++ ⟨#[32]⟩ ++ R)) rfl (by kernel_rfl) (by kernel_rfl) (by kernel_rfl) (fun _ _ _ h => h) (Or.inl ⟨by rfl, ?yrc6⟩) hHeld ?zrc6
  case yrc6 => intro wq _; go_simp; omega
  try simp only [Act.put, List.setIfInBounds_toArray, List.set_cons_zero, List.set_cons_succ]
  refine wpAnyH_take (i := 7) (v := .string (O ++ ⟨#[32]⟩ ++ R ++ ⟨#[32]⟩)) rfl (by kernel_rfl) (by kernel_rfl) (by kernel_rfl) (fun _ _ _ h => h) (Or.inl ⟨by rfl, ?yrc7⟩) hHeld ?zrc7
  case yrc7 => intro wq _; go_simp; omega
  try simp only [Act.put, List.setIfInBounds_toArray, List.set_cons_zero, List.set_cons_succ]
  refine wpAnyH_take (i := 10) (v := .string (O ++ ⟨#[32]⟩ ++ R ++ ⟨#[32]⟩ ++ fmt)) rfl (by kernel_rfl) (by kernel_rfl) (by kernel_rfl) (fun _ _ _ h => h) (Or.inl ⟨by rfl, ?yrc10⟩) hHeld ?zrc10
  case yrc10 => intro wq _; go_simp; omega
  try simp only [Act.put, List.setIfInBounds_toArray, List.set_cons_zero, List.set_cons_succ]
  refine wpAnyH_take (i := 11) (v := ?vrc11) rfl (by kernel_rfl) (by kernel_rfl) (by kernel_rfl) (fun _ _ _ h => h) (Or.inl ⟨by rfl, ?yrc11⟩) hHeld ?zrc11
  case yrc11 => (intro wq hSw; (try dsimp only at hSw); go_simp; try with_reducible rfl)
  try simp only [Act.put, List.setIfInBounds_toArray, List.set_cons_zero, List.set_cons_succ]
  clear hHeld hS
  try simp only [Act.put, List.getElem_toArray, List.getElem_cons_succ, List.getElem_cons_zero, List.setIfInBounds_toArray, List.set_cons_zero, List.set_cons_succ]
  refine wpAnyH_done (by kernel_rfl) ?_ _
  refine NoPanic.normal ?_
  by_cases hU : unt < 253402300799
  case neg =>
    have eT := HT2.out (by omega)
    subst eT
    go_wp2
    go_ret
    exact ⟨ret_str (by simp only [ba_nil]), hB3⟩
  have eT := HT1.out hU
  subst eT
  clear HT1 HT2
  go_wp2_with fail
  refine (hFl _).mono ?_
  rintro e wx ⟨rfl, hwx⟩
  have hwy := hwx.symm
  clear hwx
  subst hwy
  go_wp2_with fail
  refine (hDt _).mono ?_
  rintro e w4 ⟨rfl, hb4⟩
  have hB4 := hB3.trans (hb4.mono hB3.size)
  have c4_4 := ((bcell hb4).1 _ _ (World.block_lt_of_cell? _ _ c4_3)).trans c4_3
  have c5_4 := ((bcell hb4).1 _ _ (World.block_lt_of_cell? _ _ c5_3)).trans c5_3
  have hb5 := (Below.refl w4.heap.size w4).alloc (Nat.le_refl _) (.cells #[.int .i64 (y : Int), .int .i64 (m : Int), .int .i64 (d : Int)] 200)
  have hB5 := hB4.trans (hb5.mono hB4.size)
  have c4_5 := ((bcell hb5).1 _ _ (World.block_lt_of_cell? _ _ c4_4)).trans c4_4
  have c5_5 := ((bcell hb5).1 _ _ (World.block_lt_of_cell? _ _ c5_4)).trans c5_4
  have d0_5 : (w4.alloc (.cells #[.int .i64 (y : Int), .int .i64 (m : Int), .int .i64 (d : Int)] 200)).cell? ⟨w4.heap.size, 0, none⟩ = some (.int .i64 (y : Int)) := by simp [go_sem]
  have d1_5 : (w4.alloc (.cells #[.int .i64 (y : Int), .int .i64 (m : Int), .int .i64 (d : Int)] 200)).cell? ⟨w4.heap.size, 1, none⟩ = some (.int .i64 (m : Int)) := by simp [go_sem]
  have d2_5 : (w4.alloc (.cells #[.int .i64 (y : Int), .int .i64 (m : Int), .int .i64 (d : Int)] 200)).cell? ⟨w4.heap.size, 2, none⟩ = some (.int .i64 (d : Int)) := by simp [go_sem]
  clear hb4 hb5 hB3 hB4 c4_4 c5_4 c0_3 c1_3 c2_3 c3_3 c4_3 c5_3
  go_wp2_with fail
  generalize w4.alloc (.cells #[.int .i64 (y : Int), .int .i64 (m : Int), .int .i64 (d : Int)] 200) = w5 at *
  generalize w4.heap.size = bd at *
  have hD6 : Below w5.heap.size w5 w5.drew := ⟨rfl, rfl, rfl, Nat.le_refl _, fun _ _ => rfl⟩
  have hB6 := hB5.trans (hD6.mono hB5.size)
  refine wp_region_noPanic ?_
  refine wp_region_held_drew (S := fun w' => w'.cell? ⟨w.heap.size, 4, none⟩ = some (.int .i64 unt) ∧ w'.cell? ⟨w.heap.size, 5, none⟩ = some (.string of) ∧ w'.cell? ⟨bd, 0, none⟩ = some (.int .i64 (y : Int)) ∧ w'.cell? ⟨bd, 1, none⟩ = some (.int .i64 (m : Int)) ∧ w'.cell? ⟨bd, 2, none⟩ = some (.int .i64 (d : Int))) (by kernel_rfl) ⟨((bcell hD6).1 _ _ (World.block_lt_of_cell? _ _ c4_5)).trans c4_5, ((bcell hD6).1 _ _ (World.block_lt_of_cell? _ _ c5_5)).trans c5_5, ((bcell hD6).1 _ _ (World.block_lt_of_cell? _ _ d0_5)).trans d0_5, ((bcell hD6).1 _ _ (World.block_lt_of_cell? _ _ d1_5)).trans d1_5, ((bcell hD6).1 _ _ (World.block_lt_of_cell? _ _ d2_5)).trans d2_5⟩ (fun hHeld => ?_)
  clear hB5 hD6 c4_5 c5_5 d0_5 d1_5 d2_5
  refine wpAnyH_take (i := 0) (v := ?vc0) rfl (by kernel_rfl) (by kernel_rfl) (by kernel_rfl) (fun _ _ _ h => h) (Or.inl ⟨by rfl, ?yc0⟩) hHeld ?zc0
  case yc0 => (intro wq hSw; (try dsimp only at hSw); go_simp; try with_reducible rfl)
  try simp only [Act.put, List.setIfInBounds_toArray, List.set_cons_zero, List.set_cons_succ]
  refine wpAnyH_take (i := 2) (v := ?vc2) rfl (by kernel_rfl) (by kernel_rfl) (by kernel_rfl) (fun _ _ _ h => h) (Or.inl ⟨by rfl, ?yc2⟩) hHeld ?zc2
  case yc2 => (intro wq hSw; (try dsimp only at hSw); go_simp; try with_reducible rfl)
  try simp only [Act.put, List.setIfInBounds_toArray, List.set_cons_zero, List.set_cons_succ]
  refine wpAnyH_take (i := 3) (v := ?vc3) rfl (by kernel_rfl) (by kernel_rfl) (by kernel_rfl) (fun _ _ _ h => h) (Or.inl ⟨by rfl, ?yc3⟩) hHeld ?zc3
  case yc3 => (intro wq hSw; (try dsimp only at hSw); go_simp; try with_reducible rfl)
  try simp only [Act.put, List.setIfInBounds_toArray, List.set_cons_zero, List.set_cons_succ]
  refine wpAnyH_take (i := 8) (v := ?vc8) rfl (by kernel_rfl) (by kernel_rfl) (by kernel_rfl) (fun _ _ _ h => h) (Or.inl ⟨by rfl, ?yc8⟩) hHeld ?zc8
  case yc8 => (intro wq hSw; (try dsimp only at hSw); go_simp; try with_reducible rfl)
  try simp only [Act.put, List.setIfInBounds_toArray, List.set_cons_zero, List.set_cons_succ]
  refine wpAnyH_take (i := 9) (v := ?vc9) rfl (by kernel_rfl) (by kernel_rfl) (by kernel_rfl) (fun _ _ _ h => h) (Or.inl ⟨by rfl, ?yc9⟩) hHeld ?zc9
  case yc9 => (intro wq hSw; (try dsimp only at hSw); go_simp; try with_reducible rfl)
  try simp only [Act.put, List.setIfInBounds_toArray, List.set_cons_zero, List.set_cons_succ]
  refine wpAnyH_take (i := 10) (v := ?vc10) rfl (by kernel_rfl) (by kernel_rfl) (by kernel_rfl) (fun _ _ _ h => h) (Or.inl ⟨by rfl, ?yc10⟩) hHeld ?zc10
  case yc10 => (intro wq hSw; (try dsimp only at hSw); go_simp; try with_reducible rfl)
  try simp only [Act.put, List.setIfInBounds_toArray, List.set_cons_zero, List.set_cons_succ]
  refine wpAnyH_take (i := 15) (v := ?vc15) rfl (by kernel_rfl) (by kernel_rfl) (by kernel_rfl) (fun _ _ _ h => h) (Or.inl ⟨by rfl, ?yc15⟩) hHeld ?zc15
  case yc15 => (intro wq hSw; (try dsimp only at hSw); go_simp; try with_reducible rfl)
  try simp only [Act.put, List.setIfInBounds_toArray, List.set_cons_zero, List.set_cons_succ]
  refine wpAnyH_take (i := 16) (v := ?vc16) rfl (by kernel_rfl) (by kernel_rfl) (by kernel_rfl) (fun _ _ _ h => h) (Or.inl ⟨by rfl, ?yc16⟩) hHeld ?zc16
  case yc16 => (intro wq hSw; (try dsimp only at hSw); go_simp; try with_reducible rfl)
  try simp only [Act.put, List.setIfInBounds_toArray, List.set_cons_zero, List.set_cons_succ]
  refine wpAnyH_take (i := 20) (v := ?vc20) rfl (by kernel_rfl) (by kernel_rfl) (by kernel_rfl) (fun _ _ _ h => h) (Or.inl ⟨by rfl, ?yc20⟩) hHeld ?zc20
  case yc20 => (intro wq hSw; (try dsimp only at hSw); go_simp; try with_reducible rfl)
  try simp only [Act.put, List.setIfInBounds_toArray, List.set_cons_zero, List.set_cons_succ]
  refine wpAnyH_take (i := 21) (v := ?vc21) rfl (by kernel_rfl) (by kernel_rfl) (by kernel_rfl) (fun _ _ _ h => h) (Or.inl ⟨by rfl, ?yc21⟩) hHeld ?zc21
  case yc21 => (intro wq hSw; (try dsimp only at hSw); go_simp; try with_reducible rfl)
  try simp only [Act.put, List.setIfInBounds_toArray, List.set_cons_zero, List.set_cons_succ]
  refine wpAnyH_take (i := 22) (v := ?vc22) rfl (by kernel_rfl) (by kernel_rfl) (by kernel_rfl) (fun _ _ _ h => h) (Or.inl ⟨by rfl, ?yc22⟩) hHeld ?zc22
  case yc22 => (intro wq hSw; (try dsimp only at hSw); go_simp; try with_reducible rfl)
  try simp only [Act.put, List.setIfInBounds_toArray, List.set_cons_zero, List.set_cons_succ]
  refine wpAnyH_take (i := 23) (v := .int .i64 (86400 * dy)) rfl (by kernel_rfl) (by kernel_rfl) (by kernel_rfl) (fun _ _ _ h => h) (Or.inl ⟨by rfl, ?yc23⟩) hHeld ?zc23
  case yc23 => intro wq _; go_simp; first | done | rfl | omega
  try simp only [Act.put, List.setIfInBounds_toArray, List.set_cons_zero, List.set_cons_succ]
  refine wpAnyH_take (i := 24) (v := .int .i64 ck) rfl (by kernel_rfl) (by kernel_rfl) (by kernel_rfl) (fun _ _ _ h => h) (Or.inl ⟨by rfl, ?yc24⟩) hHeld ?zc24
  case yc24 => intro wq _; go_simp; first | done | rfl | omega
  try simp only [Act.put, List.setIfInBounds_toArray, List.set_cons_zero, List.set_cons_succ]
  refine wpAnyH_take (i := 25) (v := ?vc25) rfl (by kernel_rfl) (by kernel_rfl) (by kernel_rfl) (fun _ _ _ h => h) (Or.inl ⟨by rfl, ?yc25⟩) hHeld ?zc25
  case yc25 => (intro wq hSw; (try dsimp only at hSw); go_simp; try with_reducible rfl)
  try simp only [Act.put, List.setIfInBounds_toArray, List.set_cons_zero, List.set_cons_succ]
  refine wpAnyH_take (i := 26) (v := ?vc26) rfl (by kernel_rfl) (by kernel_rfl) (by kernel_rfl) (fun _ _ _ h => h) (Or.inl ⟨by rfl, ?yc26⟩) hHeld ?zc26
  case yc26 => (intro wq hSw; (try dsimp only at hSw); go_simp; try with_reducible rfl)
  try simp only [Act.put, List.setIfInBounds_toArray, List.set_cons_zero, List.set_cons_succ]
  refine wpAnyH_take (i := 1) (v := .string (O ++ ⟨#[32]⟩ ++ R ++ ⟨#[32]⟩ ++ fmt ++ ⟨#[32]⟩)) rfl (by kernel_rfl) (by kernel_rfl) (by kernel_rfl) (fun _ _ _ h => h) (Or.inl ⟨by rfl, ?yc1⟩) hHeld ?zc1
  case yc1 => intro wq _; go_simp; omega
  try simp only [Act.put, List.setIfInBounds_toArray, List.set_cons_zero, List.set_cons_succ]
  refine wpAnyH_ready (rs := [4]) (by kernel_rfl) (by simp) ?_
  refine AllReadyH.cons rfl (fun K hK => ?_) AllReadyH.nil
  go_simp
  refine (hY _).mono ?_
  rintro e w7 ⟨rfl, hb7⟩
  have hB7 := hB6.trans (hb7.mono hB6.size)
  obtain ⟨x0, x1, x2, x3, x4⟩ := hHeld
  have hS := And.intro (((bcell hb7).1 _ _ (World.block_lt_of_cell? _ _ x0)).trans x0) (And.intro (((bcell hb7).1 _ _ (World.block_lt_of_cell? _ _ x1)).trans x1) (And.intro (((bcell hb7).1 _ _ (World.block_lt_of_cell? _ _ x2)).trans x2) (And.intro (((bcell hb7).1 _ _ (World.block_lt_of_cell? _ _ x3)).trans x3) (((bcell hb7).1 _ _ (World.block_lt_of_cell? _ _ x4)).trans x4))))
  go_wp2_with fail
  refine hK.out _ _ hS (fun hHeld => ?_)
  clear hK K
  try simp only [Act.put, List.setIfInBounds_toArray, List.set_cons_zero, List.set_cons_succ]
  refine wpAnyH_take (i := 5) (v := .string (O ++ ⟨#[32]⟩ ++ R ++ ⟨#[32]⟩ ++ fmt ++ ⟨#[32]⟩ ++ Y)) rfl (by kernel_rfl) (by kernel_rfl) (by kernel_rfl) (fun _ _ _ h => h) (Or.inl ⟨by rfl, ?yc5⟩) hHeld ?zc5
  case yc5 => intro wq _; go_simp; omega
  try simp only [Act.put, List.setIfInBounds_toArray, List.set_cons_zero, List.set_cons_succ]
  refine wpAnyH_take (i := 6) (v := .string (O ++ ⟨#[32]⟩ ++ R ++ ⟨#[32]⟩ ++ fmt ++ ⟨#[32]⟩ ++ Y ++ ⟨#[32]⟩)) rfl (by kernel_rfl) (by kernel_rfl) (by kernel_rfl) (fun _ _ _ h => h) (Or.inl ⟨by rfl, ?yc6⟩) hHeld ?zc6
  case yc6 => intro wq _; go_simp; omega
  try simp only [Act.put, List.setIfInBounds_toArray, List.set_cons_zero, List.set_cons_succ]
  refine wpAnyH_ready (rs := [7]) (by kernel_rfl) (by simp) ?_
  refine AllReadyH.cons rfl (fun K hK => ?_) AllReadyH.nil
  go_simp
  refine (hM' _).mono ?_
  rintro e w8 ⟨rfl, hb8, m_8⟩
  have hB8 := hB7.trans (hb8.mono hB7.size)
  obtain ⟨x0, x1, x2, x3, x4⟩ := hHeld
  have hS := And.intro (((bcell hb8).1 _ _ (World.block_lt_of_cell? _ _ x0)).trans x0) (And.intro (((bcell hb8).1 _ _ (World.block_lt_of_cell? _ _ x1)).trans x1) (And.intro (((bcell hb8).1 _ _ (World.block_lt_of_cell? _ _ x2)).trans x2) (And.intro (((bcell hb8).1 _ _ (World.block_lt_of_cell? _ _ x3)).trans x3) (((bcell hb8).1 _ _ (World.block_lt_of_cell? _ _ x4)).trans x4))))
  go_wp2_with fail
  refine hK.out _ _ hS (fun hHeld => ?_)
  clear hK K
  try simp only [Act.put, List.setIfInBounds_toArray, List.set_cons_zero, List.set_cons_succ]
  refine wpAnyH_sub (S2 := fun w' => w'.cell? ⟨w.heap.size, 4, none⟩ = some (.int .i64 unt) ∧ w'.cell? ⟨w.heap.size, 5, none⟩ = some (.string of) ∧ w'.cell? ⟨bd, 0, none⟩ = some (.int .i64 (y : Int)) ∧ w'.cell? ⟨bd, 1, none⟩ = some (.int .i64 (m : Int)) ∧ w'.cell? ⟨bd, 2, none⟩ = some (.int .i64 (d : Int)) ∧ w'.cell? ⟨w7.heap.size, k, none⟩ = some (.string M)) (fun _ h => ⟨h.1, h.2.1, h.2.2.1, h.2.2.2.1, h.2.2.2.2.1⟩) _ _ _ _ ?_
  have hHeld : (fun w' : World => w'.cell? ⟨w.heap.size, 4, none⟩ = some (.int .i64 unt) ∧ w'.cell? ⟨w.heap.size, 5, none⟩ = some (.string of) ∧ w'.cell? ⟨bd, 0, none⟩ = some (.int .i64 (y : Int)) ∧ w'.cell? ⟨bd, 1, none⟩ = some (.int .i64 (m : Int)) ∧ w'.cell? ⟨bd, 2, none⟩ = some (.int .i64 (d : Int)) ∧ w'.cell? ⟨w7.heap.size, k, none⟩ = some (.string M)) w8 := ⟨hHeld.1, hHeld.2.1, hHeld.2.2.1, hHeld.2.2.2.1, hHeld.2.2.2.2, m_8⟩
  refine wpAnyH_take (i := 11) (v := ?vc11) rfl (by kernel_rfl) (by kernel_rfl) (by kernel_rfl) (fun _ _ _ h => h) (Or.inl ⟨by rfl, ?yc11⟩) hHeld ?zc11
  case yc11 => (intro wq hSw; (try dsimp only at hSw); go_simp; try with_reducible rfl)
  try simp only [Act.put, List.setIfInBounds_toArray, List.set_cons_zero, List.set_cons_succ]
  refine wpAnyH_take (i := 12) (v := ?vc12) rfl (by kernel_rfl) (by kernel_rfl) (by kernel_rfl) (fun _ _ _ h => h) (Or.inl ⟨by rfl, ?yc12⟩) hHeld ?zc12
  case yc12 => (intro wq hSw; (try dsimp only at hSw); go_simp; try with_reducible rfl)
  try simp only [Act.put, List.setIfInBounds_toArray, List.set_cons_zero, List.set_cons_succ]
  refine wpAnyH_take (i := 13) (v := .string (O ++ ⟨#[32]⟩ ++ R ++ ⟨#[32]⟩ ++ fmt ++ ⟨#[32]⟩ ++ Y ++ ⟨#[32]⟩ ++ M)) rfl (by kernel_rfl) (by kernel_rfl) (by kernel_rfl) (fun _ _ _ h => h) (Or.inl ⟨by rfl, ?yc13⟩) hHeld ?zc13
  case yc13 => intro wq _; go_simp; omega
  try simp only [Act.put, List.setIfInBounds_toArray, List.set_cons_zero, List.set_cons_succ]
  refine wpAnyH_take (i := 14) (v := .string (O ++ ⟨#[32]⟩ ++ R ++ ⟨#[32]⟩ ++ fmt ++ ⟨#[32]⟩ ++ Y ++ ⟨#[32]⟩ ++ M ++ ⟨#[32]⟩)) rfl (by kernel_rfl) (by kernel_rfl) (by kernel_rfl) (fun _ _ _ h => h) (Or.inl ⟨by rfl, ?yc14⟩) hHeld ?zc14
  case yc14 => intro wq _; go_simp; omega
  try simp only [Act.put, List.setIfInBounds_toArray, List.set_cons_zero, List.set_cons_succ]
  refine wpAnyH_ready (rs := [17]) (by kernel_rfl) (by simp) ?_
  refine AllReadyH.cons rfl (fun K hK => ?_) AllReadyH.nil
  go_simp
  refine (hDd _).mono ?_
  rintro e w9 ⟨rfl, hb9⟩
  have hB9 := hB8.trans (hb9.mono hB8.size)
  obtain ⟨x0, x1, x2, x3, x4, x5⟩ := hHeld
  have hS := And.intro (((bcell hb9).1 _ _ (World.block_lt_of_cell? _ _ x0)).trans x0) (And.intro (((bcell hb9).1 _ _ (World.block_lt_of_cell? _ _ x1)).trans x1) (And.intro (((bcell hb9).1 _ _ (World.block_lt_of_cell? _ _ x2)).trans x2) (And.intro (((bcell hb9).1 _ _ (World.block_lt_of_cell? _ _ x3)).trans x3) (And.intro (((bcell hb9).1 _ _ (World.block_lt_of_cell? _ _ x4)).trans x4) (((bcell hb9).1 _ _ (World.block_lt_of_cell? _ _ x5)).trans x5)))))
  go_wp2_with fail
  refine hK.out _ _ hS (fun hHeld => ?_)
  clear hK K
  try simp only [Act.put, List.setIfInBounds_toArray, List.set_cons_zero, List.set_cons_succ]
  refine wpAnyH_take (i := 18) (v := .string (O ++ ⟨#[32]⟩ ++ R ++ ⟨#[32]⟩ ++ fmt ++ ⟨#[32]⟩ ++ Y ++ ⟨#[32]⟩ ++ M ++ ⟨#[32]⟩ ++ D)) rfl (by kernel_rfl) (by kernel_rfl) (by kernel_rfl) (fun _ _ _ h => h) (Or.inl ⟨by rfl, ?yc18⟩) hHeld ?zc18
  case yc18 => intro wq _; go_simp; omega
  try simp only [Act.put, List.setIfInBounds_toArray, List.set_cons_zero, List.set_cons_succ]
  refine wpAnyH_take (i := 19) (v := .string (O ++ ⟨#[32]⟩ ++ R ++ ⟨#[32]⟩ ++ fmt ++ ⟨#[32]⟩ ++ Y ++ ⟨#[32]⟩ ++ M ++ ⟨#[32]⟩ ++ D ++ ⟨#[32]⟩)) rfl (by kernel_rfl) (by kernel_rfl) (by kernel_rfl) (fun _ _ _ h => h) (Or.inl ⟨by rfl, ?yc19⟩) hHeld ?zc19
  case yc19 => intro wq _; go_simp; omega
  try simp only [Act.put, List.setIfInBounds_toArray, List.set_cons_zero, List.set_cons_succ]
  refine wpAnyH_ready (rs := [27]) (by kernel_rfl) (by simp) ?_
  refine AllReadyH.cons rfl (fun K hK => ?_) AllReadyH.nil
  go_simp
  refine (hX _).mono ?_
  rintro e w10 ⟨rfl, hb10⟩
  have hB10 := hB9.trans (hb10.mono hB9.size)
  obtain ⟨x0, x1, x2, x3, x4, x5⟩ := hHeld
  have hS := And.intro (((bcell hb10).1 _ _ (World.block_lt_of_cell? _ _ x0)).trans x0) (And.intro (((bcell hb10).1 _ _ (World.block_lt_of_cell? _ _ x1)).trans x1) (And.intro (((bcell hb10).1 _ _ (World.block_lt_of_cell? _ _ x2)).trans x2) (And.intro (((bcell hb10).1 _ _ (World.block_lt_of_cell? _ _ x3)).trans x3) (And.intro (((bcell hb10).1 _ _ (World.block_lt_of_cell? _ _ x4)).trans x4) (((bcell hb10).1 _ _ (World.block_lt_of_cell? _ _ x5)).trans x5)))))
  go_wp2_with fail
  refine hK.out _ _ hS (fun hHeld => ?_)
  clear hK K
  try simp only [Act.put, List.setIfInBounds_toArray, List.set_cons_zero, List.set_cons_succ]
  refine wpAnyH_take (i := 28) (v := .string (O ++ ⟨#[32]⟩ ++ R ++ ⟨#[32]⟩ ++ fmt ++ ⟨#[32]⟩ ++ Y ++ ⟨#[32]⟩ ++ M ++ ⟨#[32]⟩ ++ D ++ ⟨#[32]⟩ ++ X)) rfl (by kernel_rfl) (by kernel_rfl) (by kernel_rfl) (fun _ _ _ h => h) (Or.inl ⟨by rfl, ?yc28⟩) hHeld ?zc28
  case yc28 => intro wq _; go_simp; omega
  try simp only [Act.put, List.setIfInBounds_toArray, List.set_cons_zero, List.set_cons_succ]
  refine wpAnyH_take (i := 29) (v := ?vc29) rfl (by kernel_rfl) (by kernel_rfl) (by kernel_rfl) (fun _ _ _ h => h) (Or.inl ⟨by rfl, ?yc29⟩) hHeld ?zc29
  case yc29 => (intro wq hSw; (try dsimp only at hSw); go_simp; try with_reducible rfl)
  try simp only [Act.put, List.setIfInBounds_toArray, List.set_cons_zero, List.set_cons_succ]
  try simp only [Act.put, List.getElem_toArray, List.getElem_cons_succ, List.getElem_cons_zero, List.setIfInBounds_toArray, List.set_cons_zero, List.set_cons_succ]
  refine wpAnyH_done (by kernel_rfl) ?_ _
  refine NoPanic.normal ?_
  go_wp2
  go_ret
  exact ⟨ret_str (by simp only [ByteArray.append_assoc]), hB10⟩
end Go.Proofs.YtjdokmllidhapaaGreatDoor
namespace Go.Proofs.YtjdokmllidhapaaGreatDoor
open Go.RowKit Go.Sort

theorem ba_ext {a b : ByteArray} (h : a.data.toList = b.data.toList) : a = b := by
  apply ByteArray.ext
  exact Array.toList_inj.mp h
theorem S_data (l : List UInt8) : (S l).data.toList = l := by simp
theorem S_of (b : ByteArray) : S b.data.toList = b := ba_ext (S_data _)
theorem ap_data (a b : ByteArray) : (a ++ b).data.toList = a.data.toList ++ b.data.toList := by rw [ByteArray.data_append, Array.toList_append]
theorem line_data (xs : List ByteArray) : (lineB xs).data.toList = Lib.join (xs.map (·.data.toList)) [32] ++ [10] := S_data _
theorem ruleJ_line (nm A T M on X O D : ByteArray) : ruleJ nm A T M on X O D = lineB [⟨#[82, 117, 108, 101]⟩, nm, A, T, ⟨#[45]⟩, M, on, X, O, D] := by
  apply ba_ext
  rw [line_data, List.map_cons, Lib.join_cons]
  unfold ruleJ
  simp [Lib.joinTail]
def headL (nm : ByteArray) : List UInt8 := [90, 111, 110, 101, 32] ++ nm.data.toList ++ [32]
def eraT (e : EraD) : ByteArray := eraJ (S (offV e.offset)) (rulT e.rules e.save) e.format (if e.until_ < 253402300799 then untJ (S (Lib.decDigits (yOf (e.until_ / 86400)).toNat)) (monB (mOf (e.until_ / 86400))) (S (Lib.decDigits (dOf (e.until_ / 86400)).toNat)) (tmB (e.until_ % 86400) e.of) else ⟨#[]⟩)
theorem eraT_mid {e : EraD} (h : e.until_ < 253402300799) : eraT e = lineB (eraW e ++ untW e) := by
  apply ba_ext
  unfold eraT eraW untW
  rw [if_pos h, line_data]
  simp only [List.cons_append, List.nil_append, List.map_cons]
  rw [Lib.join_cons]
  unfold eraJ untJ
  simp [Lib.joinTail]
theorem eraT_last {e : EraD} (h : e.until_ = 253402300799) : eraT e = lineB (eraW e) := by
  apply ba_ext
  unfold eraT eraW
  rw [if_neg (by omega), line_data]
  simp only [List.map_cons]
  rw [Lib.join_cons]
  unfold eraJ
  simp [Lib.joinTail]
theorem line_head (nm x : ByteArray) (r : List ByteArray) : (lineB ([⟨#[90, 111, 110, 101]⟩, nm] ++ (x :: r))).data.toList = headL nm ++ (lineB (x :: r)).data.toList := by
  rw [line_data, line_data]
  simp only [List.cons_append, List.nil_append, List.map_cons]
  rw [Lib.join_cons, Lib.join_cons]
  simp [headL, Lib.joinTail]
theorem zTx_data {nm : ByteArray} {es : List EraD} {n : Nat} (hn : es.length = n + 1) (hu : ∀ (k : Nat) e, es[k]? = some e → k < n → e.until_ < 253402300799) : ∀ k, k ≤ n → (zTx nm es k).data.toList = (if k = 0 then [] else headL nm ++ catL eraT es k) := by
  intro k
  induction k with
  | zero => intro _; rfl
  | succ k ih =>
    intro hk
    obtain ⟨x, hx⟩ : ∃ x, es[k]? = some x := ⟨_, List.getElem?_eq_getElem (by omega)⟩
    have hm := eraT_mid (hu k x hx (by omega))
    rw [if_neg (show ¬ (k + 1 = 0) by omega), zTx, ap_data, ih (by omega), hx, catL_succ hx, Option.getD_some]
    by_cases h0 : k = 0
    · subst h0
      rw [if_pos rfl, zHd, if_pos rfl, List.append_assoc, show eraW x ++ untW x = S (offV x.offset) :: ([rulT x.rules x.save, x.format] ++ untW x) from rfl, line_head, show S (offV x.offset) :: ([rulT x.rules x.save, x.format] ++ untW x) = eraW x ++ untW x from rfl, ← hm]
      simp [catL]
    · rw [if_neg h0, zHd, if_neg h0, List.nil_append, ← hm, List.append_assoc]
theorem zonT_data {z : ZoneD} (h : ZoneS z) : (zonT z).data.toList = headL z.name ++ catL eraT z.eras z.eras.length := by
  obtain ⟨nm, es⟩ := z
  obtain ⟨n, hn⟩ : ∃ n, es.length = n + 1 := ⟨es.length - 1, by have := h.len; simp only at this; omega⟩
  have hl := h.last
  have hu := h.up
  simp only at hl hu ⊢
  rw [hn, Nat.add_sub_cancel] at hl
  obtain ⟨x, hx⟩ : ∃ x, es[n]? = some x := ⟨_, List.getElem?_eq_getElem (by omega)⟩
  have hm := eraT_last (hl x hx)
  unfold zonT zoneT
  simp only
  rw [hn, Nat.add_sub_cancel, ap_data, zTx_data hn (fun k e he hk => hu k e he (by omega)) n (Nat.le_refl _), hx, catL_succ hx, Option.getD_some]
  by_cases h0 : n = 0
  · subst h0
    rw [if_pos rfl, zHd, if_pos rfl, show eraW x = S (offV x.offset) :: [rulT x.rules x.save, x.format] from rfl, line_head, show S (offV x.offset) :: [rulT x.rules x.save, x.format] = eraW x from rfl, ← hm]
    simp [catL]
  · rw [if_neg h0, zHd, if_neg h0, List.nil_append, ← hm, List.append_assoc]
theorem lnkT_data (x : LinkD) : (lnkT x).data.toList = [76, 105, 110, 107, 32] ++ x.to_.data.toList ++ [32] ++ x.name.data.toList ++ [10] := by
  unfold lnkT
  rw [line_data, List.map_cons, Lib.join_cons]
  simp [Lib.joinTail]
theorem eraT_le {e : EraD} (h : EraS e) : (eraT e).size ≤ 10000 := by
  have h4 := eraW_le h
  have h5 := untW_le h
  by_cases hu : e.until_ < 253402300799
  · rw [eraT_mid hu]
    have := lineB_size (eraW e ++ untW e)
    rw [szs_append, List.length_append] at this
    omega
  · rw [eraT_last (by have := h.hi; omega)]
    have := lineB_size (eraW e)
    omega
end Go.Proofs.YtjdokmllidhapaaGreatDoor
namespace Go.Proofs.YtjdokmllidhapaaGreatDoor
open Go.RowKit Go.Sort

theorem S_ap (L : List UInt8) (b : ByteArray) : S L ++ b = S (L ++ b.data.toList) := ba_ext (by rw [ap_data, S_data, S_data])
theorem S_ap3 (L : List UInt8) (b : ByteArray) : S L ++ ⟨#[90, 111, 110, 101, 32]⟩ ++ b ++ ⟨#[32]⟩ = S (L ++ headL b) := ba_ext (by simp only [ap_data, headL]; simp)
theorem S_ap5 (L : List UInt8) (x : LinkD) : S L ++ ⟨#[76, 105, 110, 107, 32]⟩ ++ x.to_ ++ ⟨#[32]⟩ ++ x.name ++ ⟨#[10]⟩ = S (L ++ (lnkT x).data.toList) := ba_ext (by rw [S_data, lnkT_data]; simp only [ap_data]; simp)
theorem S_sz (L : List UInt8) : (S L).size = L.length := S_size L
theorem era_sv {e : EraD} (h : eraP e = true) : -7200 ≤ e.save ∧ e.save ≤ 7200 := by
  unfold eraP at h
  simp only [Bool.and_eq_true] at h
  have h3 := h.2.2.1
  unfold erB at h3
  cases he : e.rules.toList.isEmpty
  · rw [he] at h3
    simp only [Bool.false_eq_true, ↓reduceIte, Bool.and_eq_true] at h3
    have := of_decide_eq_true h3.2
    omega
  · rw [he, if_pos rfl] at h3
    exact isB_of_t h3
theorem zone_sv {z : ZoneD} (h : zoneP z = true) : ∀ e ∈ z.eras, -7200 ≤ e.save ∧ e.save ≤ 7200 := fun e he => by
  unfold zoneP at h
  simp only [Bool.and_eq_true] at h
  exact era_sv (List.all_eq_true.mp h.2.2.1 e he)
theorem headL_le {nm : ByteArray} (h : nm.size ≤ 20) : (headL nm).length ≤ 26 := by
  unfold headL
  have : nm.data.toList.length = nm.size := by rw [Array.length_toList]; rfl
  simp only [List.length_append, List.length_cons, List.length_nil, this]
  omega
set_option maxRecDepth 20000 in
set_option maxHeartbeats 8000000 in
theorem spec_ReleaseText (r : RelD) (v : Value) (w : World) (B0 : Nat) (hv : OwnRel w B0 v r) (ok : r.ok) (sm : r.small) (hon : ∀ x ∈ r.rules, x.on.size ≤ 1048576) :
    Calls Tryz.prog 28 #[v] w fun e w' => e = .returned (.string (relT r)) ∧ Below w.heap.size w w' := by
  have hR := fun w h => spec_ReleaseRight r v w h ok sm hon
  have hvr := hv.rel
  obtain ⟨a, b, c, rfl, _, ⟨hAr, _⟩, ⟨hAz, _⟩, ⟨hAl, _⟩⟩ := hv.form
  have hB0 := (Below.refl w.heap.size w).alloc (Nat.le_refl _) (.cells #[.slice (some ⟨a, 0, none⟩) r.rules.length r.rules.length, .slice (some ⟨b, 0, none⟩) r.zones.length r.zones.length, .slice (some ⟨c, 0, none⟩) r.links.length r.links.length] 27)
  cases hr : relB r
  · rw [relT_no1 hr]
    rw [hr] at hR
    clear hr
    go_enter Tryz.func28, Tryz.ntmps28
    go_wp2_with fail
    refine (hR _ (hvr.below hB0)).mono ?_
    rintro e w1 ⟨rfl, hb1⟩
    go_wp2
    go_ret
    exact ⟨rfl, hB0.trans (hb1.mono hB0.size)⟩
  have hT := rel_of hr
  obtain ⟨l1, l2, l3⟩ := hT.lens
  have sR : ∀ x ∈ r.rules, RuleS x := fun x hx => rule_S (List.all_eq_true.mp hT.rules x hx) (hon x hx)
  have sZ : ∀ z ∈ r.zones, ZoneS z := fun z hz => zone_S (List.all_eq_true.mp hT.zones z hz)
  have sV : ∀ z ∈ r.zones, ∀ e ∈ z.eras, -7200 ≤ e.save ∧ e.save ≤ 7200 := fun z hz => zone_sv (List.all_eq_true.mp hT.zones z hz)
  have sL : ∀ x ∈ r.links, linkB x = true := fun x hx => List.all_eq_true.mp hT.links x hx
  have bR := fun k h => catL_le (f := ruleT) (fun x hx => ruleT_le (sR x hx)) k h
  have bZ := fun k h => catL_le (f := zonT) (fun x hx => zonT_le (sZ x hx)) k h
  have bL := fun k h => catL_le (f := lnkT) (fun x hx => lnkT_le (sL x hx)) k h
  have HL : Hid (relL r = catL ruleT r.rules r.rules.length ++ catL zonT r.zones r.zones.length ++ catL lnkT r.links r.links.length) := rfl
  have Y1 : Hid ((relL r).length ≤ 8000 → relT r = S (relL r)) := fun h => relT_yes hr h
  have Y2 : Hid (¬ (relL r).length ≤ 8000 → relT r = ⟨#[]⟩) := fun h => relT_no2 h
  rw [hr] at hR
  clear hr hT ok sm hon
  generalize relT r = RT at *
  go_enter Tryz.func28, Tryz.ntmps28
  go_wp2_with fail
  refine (hR _ (hvr.below hB0)).mono ?_
  rintro e wB ⟨rfl, hb1⟩
  have hBB := hB0.trans (hb1.mono hB0.size)
  have q0 : wB.cell? ⟨w.heap.size, 0, none⟩ = some (.slice (some ⟨a, 0, none⟩) r.rules.length r.rules.length) := ((bcell hb1).1 _ _ (by simp)).trans (by simp [go_sem])
  have q1 : wB.cell? ⟨w.heap.size, 1, none⟩ = some (.slice (some ⟨b, 0, none⟩) r.zones.length r.zones.length) := ((bcell hb1).1 _ _ (by simp)).trans (by simp [go_sem])
  have q2 : wB.cell? ⟨w.heap.size, 2, none⟩ = some (.slice (some ⟨c, 0, none⟩) r.links.length r.links.length) := ((bcell hb1).1 _ _ (by simp)).trans (by simp [go_sem])
  have hlt : w.heap.size < wB.heap.size := World.block_lt_of_cell? _ _ q0
  clear hR hb1 hB0 hvr
  have HE0 : Hid ((⟨#[]⟩ : ByteArray) = S (catL ruleT r.rules 0)) := rfl
  go_wp2
  go_loopw [3, 4] (fun t s wr => ∃ k : Nat, k ≤ r.rules.length ∧ s = .int .i64 k ∧ t = .string (S (catL ruleT r.rules k)) ∧ Below wB.heap.size wB wr) (fun _ s _ => r.rules.length - (intOf s).toNat)
  case atStart => exact ⟨0, by omega, rfl, by rw [← HE0.out], Below.refl _ _⟩
  case round =>
    obtain ⟨k, hk, rfl, rfl, hB⟩ := hrel
    have hBw := hBB.trans (hB.mono hBB.size)
    have Q0 := (hB.cell (p := ⟨w.heap.size, 0, none⟩) hlt).trans q0
    by_cases hlt2 : k < r.rules.length
    · obtain ⟨x, hx⟩ : ∃ x, r.rules[k]? = some x := ⟨_, List.getElem?_eq_getElem hlt2⟩
      have sx := sR x (List.mem_of_getElem? hx)
      obtain ⟨b', o', he, hc⟩ := (hAr.below hBw).at (i := k) (r := x.cs) (by rw [List.getElem?_map, hx]; rfl)
      injection he with he
      injection he with u1 u2
      subst u1 u2
      simp only [Nat.zero_add] at hc
      have c0 : wr.cell? ⟨a, k * 9, none⟩ = some (.string x.name) := hc 0 _ rfl
      have c1 := hc 1 _ rfl
      have c2 := hc 2 _ rfl
      have c3 := hc 3 _ rfl
      have c4 := hc 4 _ rfl
      have c5 := hc 5 _ rfl
      have c6 := hc 6 _ rfl
      have c7 := hc 7 _ rfl
      have c8 := hc 8 _ rfl
      clear hc
      have HC : Hid (S (catL ruleT r.rules (k + 1)) = S (catL ruleT r.rules k) ++ ruleT x) := by simp only [Hid]; rw [catL_succ hx, S_ap]
      have hz := bR k (by omega)
      rw [← S_sz] at hz
      have ht := ruleT_le sx
      obtain ⟨lo, elo⟩ : ∃ n : Nat, x.lo = n := ⟨x.lo.toNat, by have := sx.lo1; omega⟩
      obtain ⟨hi, ehi⟩ : ∃ n : Nat, x.hi = n := ⟨x.hi.toNat, by have := sx.hi1; omega⟩
      obtain ⟨mo, emo⟩ : ∃ n : Nat, x.month = n := ⟨x.month.toNat, by have := sx.m1; omega⟩
      have hRT := fun w => spec_l02RuleText x.name x.on x.of x.letter lo hi mo x.at_ x.save w sx.nm (by have := sx.lo2; omega) (by have := sx.hi2; omega) (by have := sx.m1; omega) (by have := sx.m2; omega) sx.on sx.of sx.lt
      have HE : Hid (ruleJ x.name (S (Lib.decDigits lo)) (toB lo hi) (monB mo) x.on (tmB x.at_ x.of) (S (offV x.save)) (dashB x.letter) = ruleT x) := by
        simp only [Hid]; rw [ruleJ_line]; unfold ruleT; rw [elo, ehi, emo]; rfl
      rw [HE.out, ← elo, ← ehi, ← emo] at hRT
      generalize ruleT x = TX at *
      generalize S (catL ruleT r.rules k) = LL at *
      clear hx HE elo ehi emo sx
      go_wp2_with fail
      refine (hRT _).mono ?_
      rintro e w2 ⟨rfl, hb2⟩
      have hC2 := hB.trans (hb2.mono hB.size)
      clear hb2 c0 c1 c2 c3 c4 c5 c6 c7 c8 Q0
      go_wp2
      go_roundw
      case rel => exact ⟨k + 1, by omega, by go_num, by rw [HC.out], hC2⟩
      case measure => simp [intOf]; omega
    · obtain rfl : k = r.rules.length := by omega
      have hz1 := bR r.rules.length (by omega)
      have HI0 : Hid (S (catL ruleT r.rules r.rules.length) = S (catL ruleT r.rules r.rules.length ++ catL zonT r.zones 0)) := by simp only [Hid]; rw [catL_zero, List.append_nil]
      generalize catL ruleT r.rules r.rules.length = LR at *
      have hlr : LR.length ≤ 80000000 := by omega
      have Q1 := (hB.cell (p := ⟨w.heap.size, 1, none⟩) hlt).trans q1
      go_wp2
      clear Q0 Q1
      rw [HI0.out]
      generalize wr = wz at *
      go_loopw [3, 5] (fun t s wr => ∃ k : Nat, k ≤ r.zones.length ∧ s = .int .i64 k ∧ t = .string (S (LR ++ catL zonT r.zones k)) ∧ Below wB.heap.size wB wr) (fun _ s _ => r.zones.length - (intOf s).toNat)
      case atStart => exact ⟨0, by omega, rfl, rfl, hB⟩
      case round =>
        clear hB hBw hlt2 hk HI0
        obtain ⟨k, hk, rfl, rfl, hB⟩ := hrel
        have hBw := hBB.trans (hB.mono hBB.size)
        have Q1 := (hB.cell (p := ⟨w.heap.size, 1, none⟩) hlt).trans q1
        by_cases hlt2 : k < r.zones.length
        · obtain ⟨z, hx⟩ : ∃ x, r.zones[k]? = some x := ⟨_, List.getElem?_eq_getElem hlt2⟩
          have sx := sZ z (List.mem_of_getElem? hx)
          have sv := sV z (List.mem_of_getElem? hx)
          have HZ : Hid (∀ wr, Below w.heap.size w wr → ∃ q, wr.cell? ⟨b, k * 2 + 1, none⟩ = some (.slice (some ⟨q, 0, none⟩) z.eras.length z.eras.length) ∧ SeqAt wr (some ⟨q, 0, none⟩) 6 (z.eras.map EraD.cs)) := fun wr hB => by
            obtain ⟨_, q, _, c1, hAe, _⟩ := (hAz.below hB) k z hlt2 hx
            exact ⟨q, c1, hAe⟩
          obtain ⟨c0, q, hq, c1, hAe, _⟩ := hAz k z hlt2 hx
          have hbq : b < w.heap.size := World.block_lt_of_cell? _ _ c0
          have C0 := (hBw.cell (p := ⟨b, k * 2, none⟩) hbq).trans c0
          have C1 := (hBw.cell (p := ⟨b, k * 2 + 1, none⟩) hbq).trans c1
          have hd := zonT_data sx
          have HC : Hid (S (LR ++ catL zonT r.zones (k + 1)) = S (LR ++ catL zonT r.zones k ++ headL z.name ++ catL eraT z.eras z.eras.length)) := by
            simp only [Hid]; rw [catL_succ hx, hd]; simp only [List.append_assoc]
          have hz := bZ k (by omega)
          have hln := sx.len
          obtain ⟨LL, hLL⟩ : ∃ LL, LR ++ catL zonT r.zones k = LL := ⟨_, rfl⟩
          have hll : LL.length ≤ 100000000 := by rw [← hLL, List.length_append]; omega
          rw [hLL] at HC ⊢
          have hhd := headL_le sx.nm
          obtain ⟨TH, hTH⟩ : ∃ TH : Nat → ByteArray, ∀ j, TH j = S (LL ++ headL z.name ++ catL eraT z.eras j) := ⟨fun j => S (LL ++ headL z.name ++ catL eraT z.eras j), fun _ => rfl⟩
          have H3 : Hid (S LL ++ ⟨#[90, 111, 110, 101, 32]⟩ ++ z.name ++ ⟨#[32]⟩ = TH 0) := by simp only [Hid]; rw [hTH, S_ap3, catL_zero, List.append_nil]
          have HTH : Hid (∀ j, TH j = S (LL ++ headL z.name ++ catL eraT z.eras j)) := hTH
          rw [← hTH] at HC
          clear hTH
          have hnm := sx.nm
          have hsl := S_sz LL
          have bE := fun j h => catL_le (f := eraT) (fun x hx => eraT_le (sx.eras x hx)) j h
          have hEr : ∀ (j : Nat) x, z.eras[j]? = some x → (EraS x ∧ -7200 ≤ x.save ∧ x.save ≤ 7200) := fun j x hj => ⟨sx.eras x (List.mem_of_getElem? hj), sv x (List.mem_of_getElem? hj)⟩
          clear hx hLL hz sx sv hd
          generalize S LL = SL at *
          go_wp2
          rw [H3.out]
          generalize wr = wz2 at *
          go_loopw [3, 6] (fun t s wr => ∃ j : Nat, j ≤ z.eras.length ∧ s = .int .i64 j ∧ t = .string (TH j) ∧ Below wB.heap.size wB wr) (fun _ s _ => z.eras.length - (intOf s).toNat)
          case atStart => exact ⟨0, by omega, rfl, rfl, hB⟩
          case round =>
            clear hB hBw Q1 C0 C1 H3
            obtain ⟨j, hj, rfl, rfl, hB⟩ := hrel
            have hBw := hBB.trans (hB.mono hBB.size)
            have Q1 := (hB.cell (p := ⟨w.heap.size, 1, none⟩) hlt).trans q1
            have C1 := (hBw.cell (p := ⟨b, k * 2 + 1, none⟩) hbq).trans c1
            by_cases hlj : j < z.eras.length
            · obtain ⟨x, hx⟩ : ∃ x, z.eras[j]? = some x := ⟨_, List.getElem?_eq_getElem hlj⟩
              obtain ⟨ok, v1, v2⟩ := hEr j x hx
              obtain ⟨b', o', he, hc⟩ := (hAe.below hBw).at (i := j) (r := x.cs) (by rw [List.getElem?_map, hx]; rfl)
              injection he with he
              injection he with u1 u2
              subst u1 u2
              simp only [Nat.zero_add] at hc
              have e0 : wr.cell? ⟨q, j * 6, none⟩ = some (.int .i64 x.offset) := hc 0 _ rfl
              have e1 := hc 1 _ rfl
              have e2 := hc 2 _ rfl
              have e3 := hc 3 _ rfl
              have e4 := hc 4 _ rfl
              have e5 := hc 5 _ rfl
              clear hc
              have HCj : Hid (TH (j + 1) = TH j ++ eraT x) := by simp only [Hid]; rw [HTH.out, HTH.out, catL_succ hx, S_ap]; simp only [List.append_assoc]
              have hzj := bE j (by omega)
              have ht := eraT_le ok
              have hET : ∀ w, Calls Tryz.prog 82 #[.agg #[.int .i64 x.offset, .string x.rules, .int .i64 x.save, .string x.format, .int .i64 x.until_, .string x.of]] w fun e w' => e = .returned (.string (eraT x)) ∧ Below w.heap.size w w' := fun w => spec_l02EraText x.rules x.format x.of x.offset x.save x.until_ w ok.lo ok.hi ok.fmt ok.rul ok.of v1 v2
              have hsz : (TH j).size ≤ 200000000 := by rw [HTH.out, S_sz, List.length_append, List.length_append]; omega
              generalize eraT x = TX at *
              generalize TH j = SJ at *
              clear hx ok v1 v2 hzj
              go_wp2_with fail
              refine (hET _).mono ?_
              rintro e w2 ⟨rfl, hb2⟩
              have hC2 := hB.trans (hb2.mono hB.size)
              clear hb2 e0 e1 e2 e3 e4 e5 Q1 C1
              go_wp2
              go_roundw
              case rel => exact ⟨j + 1, by omega, by go_num, by rw [HCj.out], hC2⟩
              case measure => simp [intOf]; omega
            · obtain rfl : j = z.eras.length := by omega
              go_wp2
              go_roundw
              case rel => exact ⟨k + 1, by omega, by go_num, by rw [HC.out], hB⟩
              case measure => simp [intOf]; omega
        · obtain rfl : k = r.zones.length := by omega
          have hz2 := bZ r.zones.length (by omega)
          obtain ⟨LZ, hLZ⟩ : ∃ LZ, LR ++ catL zonT r.zones r.zones.length = LZ := ⟨_, rfl⟩
          have hlz : LZ.length ≤ 100000000 := by rw [← hLZ, List.length_append]; omega
          rw [hLZ] at HL ⊢
          have HI0 : Hid (S LZ = S (LZ ++ catL lnkT r.links 0)) := by simp only [Hid]; rw [catL_zero, List.append_nil]
          clear hLZ
          go_wp2
          clear Q1
          rw [HI0.out]
          generalize wr = wl at *
          go_loopw [3, 7] (fun t s wr => ∃ k : Nat, k ≤ r.links.length ∧ s = .int .i64 k ∧ t = .string (S (LZ ++ catL lnkT r.links k)) ∧ Below wB.heap.size wB wr) (fun _ s _ => r.links.length - (intOf s).toNat)
          case atStart => exact ⟨0, by omega, rfl, rfl, hB⟩
          case round =>
            clear hB hBw hlt2 hk HI0
            obtain ⟨k, hk, rfl, rfl, hB⟩ := hrel
            have hBw := hBB.trans (hB.mono hBB.size)
            have Q2 := (hB.cell (p := ⟨w.heap.size, 2, none⟩) hlt).trans q2
            by_cases hlt2 : k < r.links.length
            · obtain ⟨x, hx⟩ : ∃ x, r.links[k]? = some x := ⟨_, List.getElem?_eq_getElem hlt2⟩
              have sx := sL x (List.mem_of_getElem? hx)
              obtain ⟨b', o', he, hc⟩ := (hAl.below hBw).at (i := k) (r := x.cs) (by rw [List.getElem?_map, hx]; rfl)
              injection he with he
              injection he with u1 u2
              subst u1 u2
              simp only [Nat.zero_add] at hc
              have c0 : wr.cell? ⟨c, k * 2, none⟩ = some (.string x.to_) := hc 0 _ rfl
              have c1 := hc 1 _ rfl
              clear hc
              have HC : Hid (S (LZ ++ catL lnkT r.links (k + 1)) = S (LZ ++ catL lnkT r.links k) ++ ⟨#[76, 105, 110, 107, 32]⟩ ++ x.to_ ++ ⟨#[32]⟩ ++ x.name ++ ⟨#[10]⟩) := by simp only [Hid]; rw [S_ap5, catL_succ hx, List.append_assoc]
              have hz := bL k (by omega)
              have hsz : (S (LZ ++ catL lnkT r.links k)).size ≤ 200000000 := by rw [S_sz, List.length_append]; omega
              unfold linkB at sx
              rw [Bool.and_eq_true] at sx
              have n1 := name_size sx.1
              have n2 := name_size sx.2
              generalize S (LZ ++ catL lnkT r.links k) = SL at *
              clear hx sx hz
              go_wp2_with fail
              go_quiet (fail)
              go_wp2
              go_roundw
              case rel => exact ⟨k + 1, by omega, by go_num, by rw [HC.out], below_drewN hB _⟩
              case measure => simp [intOf]; omega
            · obtain rfl : k = r.links.length := by omega
              rw [← HL.out]
              have hsF := S_sz (relL r)
              by_cases hl8 : (relL r).length ≤ 8000
              · have E := Y1.out hl8
                have hg : ¬ (8000 : Int) < ((S (relL r)).size : Int) := by omega
                generalize S (relL r) = SF at *
                clear Y1 Y2 HL hsF hl8
                go_wp2
                go_ret
                exact ⟨ret_str (by first | rfl | exact E.symm), hBw⟩
              · have E := Y2.out hl8
                have hg : (8000 : Int) < ((S (relL r)).size : Int) := by omega
                generalize S (relL r) = SF at *
                clear Y1 Y2 HL hsF hl8
                go_wp2
                go_ret
                exact ⟨ret_str E.symm, hBw⟩
end Go.Proofs.YtjdokmllidhapaaGreatDoor
