/- Packed. -/
import Derived.Test.YtgiieknbckhofaaGreatDoorRightQu
import Derived.Lib.OwnBridge
set_option maxHeartbeats 20000000
set_option linter.unusedSimpArgs false
namespace Go.Proofs.YtgiieknbckhofaaGreatDoor
section
open Go.RowKit
theorem jw1 {rs : List RuleD} {s : ByteArray} (hr : rs.all jav = true) (h : hasB rs s = true) : jay s = true := by
 unfold hasB at h
 obtain ⟨x, hx, he⟩ := List.any_eq_true.mp h
 have h1 := List.all_eq_true.mp hr x hx
 unfold jav at h1
 simp only [bat] at h1
 have e : x.name = s := toList_inj (beq_iff_eq.mp he)
 rw [<- e]; exact h1.1
theorem jsh {rs : List RuleD} (hr : rs.all jav = true) (e : EraD) : (eraP e = true /\ jb1 rs e = true) ↔ eraM rs e = true := by
 unfold eraP jb1 eraM erB isB
 cases he : e.rules.toList.isEmpty
 ·cases hh : hasB rs e.rules
  ·simp
  ·have hn := jw1 hr hh
   rw [hn]
   simp only [bat, decide_eq_true_eq, Bool.or_eq_true, Bool.false_eq_true, if_false, false_or, true_and, and_true]
   constructor
   ·rintro ⟨a, b, c, d, f, g, h⟩
    exact ⟨c, ⟨a, b⟩, by omega, d, ⟨f, g⟩, h⟩
   ·rintro ⟨c, ⟨a, b⟩, _, d, ⟨f, g⟩, h⟩
    exact ⟨a, b, c, d, f, g, h⟩
 ·simp only [bat, decide_eq_true_eq, Bool.or_eq_true, if_true, true_or, true_and, and_true]
  constructor
  ·rintro ⟨a, b, c, d, f, g, h⟩
   exact ⟨⟨a, b⟩, c, d, ⟨f, g⟩, h⟩
  ·rintro ⟨⟨a, b⟩, c, d, ⟨f, g⟩, h⟩
   exact ⟨a, b, c, d, f, g, h⟩
structure StepM (rs : List RuleD) (es : List EraD) (k : Nat) (e : EraD) : Prop where
 era : eraM rs e = true
 up : ∀ j p, k = j + 1 -> es[j]? = some p -> p.until_ < e.until_
 last : e.until_ = 253402300799 ↔ k + 1 = es.length
 of : k + 1 = es.length -> e.of.toList = [119]
structure ZoneM (rs : List RuleD) (z : ZoneD) : Prop where
 name : jay z.name = true
 len : 1 <= z.eras.length /\ z.eras.length <= 8
 steps : ∀ k e, z.eras[k]? = some e -> StepM rs z.eras k e
theorem j24 {es : List EraD} (h : upB es = true) {i : Nat} {x y : EraD} (hx : es[i]? = some x) (hy : es[i + 1]? = some y) : x.until_ < y.until_ := by
 by_cases hn : x.until_ < y.until_
 ·exact hn
 ·rw [j25 hx hy hn] at h; cases h
theorem jt9 {rs : List RuleD} {e : EraD} (h : eraM rs e = true) : e.until_ <= 253402300799 := by
 unfold eraM isB at h
 simp only [bat, decide_eq_true_eq] at h
 exact h.2.2.2.2.1.2
theorem jhu {rs : List RuleD} (hr : rs.all jav = true) (z : ZoneD) : (jbi z = true /\ z.eras.all (jb1 rs) = true) ↔ ZoneM rs z := by
 obtain ⟨nm, es⟩ := z
 unfold jbi
 simp only [bat, decide_eq_true_eq]
 constructor
 ·rintro ⟨⟨h1, h2, h3, h4, h5⟩, h6⟩
  have hE : ∀ k e, es[k]? = some e -> eraM rs e = true := fun k e hk => (jsh hr e).mp ⟨List.all_eq_true.mp h3 e (lmg hk), List.all_eq_true.mp h6 e (lmg hk)⟩
  have hla : ∀ k e, es[k]? = some e -> k + 1 = es.length -> e.until_ = 253402300799 /\ e.of.toList = [119] := by
   intro k e hk hl
   unfold laB2 at h5
   rw [show es.length - 1 = k by omega, hk] at h5
   simp only [bat, beq_iff_eq] at h5
   exact h5
  refine ⟨h1, h2, fun k e hk => ⟨hE k e hk, ?_, ⟨fun hu => ?_, fun hl => (hla k e hk hl).1⟩, fun hl => (hla k e hk hl).2⟩⟩
  ·rintro j p rfl hp
   exact j24 h4 hp hk
  ·have fe : k < es.length := (lgs hk).1
   by_cases hl : k + 1 = es.length
   ·exact hl
   ·obtain ⟨y, hy⟩ : ∃ y, es[k + 1]? = some y := ⟨_, lgg (by omega)⟩
    have := j24 h4 hk hy
    have := jt9 (hE _ y hy)
    omega
 ·rintro ⟨h1, h2, hs⟩
  simp only at h1 h2 hs
  have hE : ∀ e ∈ es, eraP e = true /\ jb1 rs e = true := fun e he => by
   obtain ⟨k, hk⟩ := lgo he
   exact (jsh hr e).mpr (hs k e hk).era
  refine ⟨⟨h1, h2, List.all_eq_true.mpr fun e he => (hE e he).1, j0y fun i x y hx hy => (hs _ y hy).up i x rfl hx, ?_⟩, List.all_eq_true.mpr fun e he => (hE e he).2⟩
  obtain ⟨y, hy⟩ : ∃ y, es[es.length - 1]? = some y := ⟨_, lgg (by omega)⟩
  have hS := hs _ y hy
  unfold laB2
  rw [hy]
  simp only [bat, beq_iff_eq]
  exact ⟨hS.last.mpr (by omega), hS.of (by omega)⟩
end
section
open Go.RowKit
def jvd (rs : List RuleD) (es : List EraD) (k : Nat) (e : EraD) : Bool :=
 eraM rs e && ((k == 0) || (match es[k - 1]? with | some p => decide (p.until_ < e.until_) | none => true)) && (decide (e.until_ = 253402300799) == decide (k + 1 = es.length)) && (!decide (k + 1 = es.length) || e.of.toList == [119])
theorem stepMB_iff {rs : List RuleD} {es : List EraD} {k : Nat} {e : EraD} : jvd rs es k e = true ↔ StepM rs es k e := by
 unfold jvd
 simp only [bat, Bool.or_eq_true, beq_iff_eq, Bool.not_eq_true', decide_eq_false_iff_not, decide_eq_decide]
 constructor
 ·rintro ⟨⟨⟨h1, h2⟩, h3⟩, h4⟩
  refine ⟨h1, ?_, h3, ?_⟩
  ·rintro j p rfl hp
   rcases h2 with h2 | h2
   ·omega
   ·rw [show j + 1 - 1 = j by omega, hp] at h2
    exact odt h2
  ·intro hk
   rcases h4 with h4 | h4
   ·exact absurd hk h4
   ·exact h4
 ·rintro ⟨h1, h2, h3, h4⟩
  refine ⟨⟨⟨h1, ?_⟩, h3⟩, ?_⟩
  ·by_cases hk : k = 0
   ·exact .inl hk
   ·refine .inr ?_
    cases hp : es[k - 1]? with
    | none => rfl
    | some p => exact dte (h2 (k - 1) p (by omega) hp)
  ·by_cases hk : k + 1 = es.length
   ·exact .inr (h4 hk)
   ·exact .inl hk
def jb8 (rs : List RuleD) (z : ZoneD) : Bool :=
 jay z.name && decide (1 <= z.eras.length /\ z.eras.length <= 8) && (List.range z.eras.length).all fun k => match z.eras[k]? with | some e => jvd rs z.eras k e | none => true
theorem zoneMB_iff {rs : List RuleD} {z : ZoneD} : jb8 rs z = true ↔ ZoneM rs z := by
 unfold jb8
 simp only [bat, decide_eq_true_eq, List.all_eq_true, List.mem_range]
 constructor
 ·rintro ⟨⟨h1, h2⟩, h3⟩
  refine ⟨h1, h2, fun k e hk => ?_⟩
  have := h3 k (lgs hk).1
  rw [hk] at this
  exact stepMB_iff.mp this
 ·rintro ⟨h1, h2, h3⟩
  refine ⟨⟨h1, h2⟩, fun k hk => ?_⟩
  cases he : z.eras[k]? with
  | none => rfl
  | some e => exact stepMB_iff.mpr (h3 k e he)
theorem jhp {rs : List RuleD} {z : ZoneD} (h : ¬ ZoneM rs z) : jb8 rs z = false := by
 cases hb : jb8 rs z
 ·rfl
 ·exact absurd (zoneMB_iff.mp hb) h
theorem jmy {rs : List RuleD} {z : ZoneD} (h : ZoneM rs z) : jb8 rs z = true := zoneMB_iff.mpr h
end
section
open Go.RowKit
theorem j3t {zs : List ZoneD} {s : ByteArray} (hz : ∀ z ∈ zs, jay z.name = true) (h : hasZ zs s = true) : jay s = true := by
 unfold hasZ at h
 obtain ⟨x, hx, he⟩ := List.any_eq_true.mp h
 rw [<- toList_inj (beq_iff_eq.mp he)]
 exact hz x hx
theorem jtn {zs : List ZoneD} {ls : List LinkD} (hz : ∀ z ∈ zs, jay z.name = true) : (ls.all jep = true /\ (ls.all fun x => hasZ zs x.to_) = true) ↔ ∀ x ∈ ls, jay x.name = true /\ hasZ zs x.to_ = true := by
 simp only [List.all_eq_true]
 unfold jep
 simp only [bat]
 constructor
 ·rintro ⟨h1, h2⟩ x hx
  exact ⟨(h1 x hx).2, h2 x hx⟩
 ·intro h
  exact ⟨fun x hx => ⟨j3t hz (h x hx).2, (h x hx).1⟩, fun x hx => (h x hx).2⟩
theorem jkl {rs : List RuleD} {zs : List ZoneD} (hr : rs.all jav = true) : (zs.all jbi = true /\ (zs.all fun z => z.eras.all (jb1 rs)) = true) ↔ ∀ z ∈ zs, ZoneM rs z := by
 simp only [List.all_eq_true (l := zs)]
 exact ⟨fun h z hz => (jhu hr z).mp ⟨h.1 z hz, h.2 z hz⟩, fun h => ⟨fun z hz => ((jhu hr z).mpr (h z hz)).1, fun z hz => ((jhu hr z).mpr (h z hz)).2⟩⟩
end
section
open Go.RowKit Go.Sort
theorem jnd (r : RelD) (v : Value) (z : ZoneD) (u : Value) (w : World) (hv : Zd w v r) (hu : Jg w u z.eras) (ok : z.ok) (hl : r.rules.length <= 1048576) :
  Cl 84 #[v, .agg #[.string z.name, u]] w fun e w' => e = .returned (.bool (jb8 r.rules z)) /\ Bw w w' := by
 obtain ⟨a, cap, rfl, hA⟩ := hu
 obtain ⟨m1, m2, m3⟩ := ok
 unfold maxLen at m2
 have h1 := fun w => jbv z.name w m1
 obtain ⟨ra, rb, rc, ca, cb, cc, jT, _, _, _⟩ := hv.form
 have ag := fun o o2 => (qal w o).alloc (by simp) o2
 generalize r.zones.length = zn at *
 generalize r.links.length = kn at *
 generalize hrn : r.rules.length = rn at *
 subst jT
 cases hn : jay z.name
 ·rw [jhp fun h => by have := h.name; rw [hn] at this; cases this]
  rw [hn] at h1
  clear hn
  go_enter Tryz.func84, Tryz.ntmps84
  go_wp2_with fail
  refine (h1 _).mono ?_
  rintro e w' ⟨rfl, rfl⟩
  go_wp2
  go_ret
  exact ⟨rfl, ag _ _⟩
 rw [hn] at h1
 by_cases hl0 : z.eras.length < 1
 ·rw [jhp fun h => by have := h.len; omega]
  go_enter Tryz.func84, Tryz.ntmps84
  go_wp2_with fail
  refine (h1 _).mono ?_
  rintro e w' ⟨rfl, rfl⟩
  go_wp2
  go_ret
  exact ⟨rfl, ag _ _⟩
 by_cases GB : 8 < z.eras.length
 ·rw [jhp fun h => by have := h.len; omega]
  go_enter Tryz.func84, Tryz.ntmps84
  go_wp2_with fail
  refine (h1 _).mono ?_
  rintro e w' ⟨rfl, rfl⟩
  go_wp2
  go_ret
  exact ⟨rfl, ag _ _⟩
 have HZ : Hid ((∀ k e, z.eras[k]? = some e -> StepM r.rules z.eras k e) -> jb8 r.rules z = true) := fun h => jmy ⟨hn, by omega, h⟩
 have HN : Hid (∀ k e, z.eras[k]? = some e -> ¬ StepM r.rules z.eras k e -> jb8 r.rules z = false) := fun k e hk h => jhp fun hz => h (hz.steps k e hk)
 clear hn
 generalize jb8 r.rules z = zb at *
 obtain ⟨nm, es⟩ := z
 simp only at *
 go_enter Tryz.func84, Tryz.ntmps84
 go_wp2_with fail
 refine (h1 _).mono ?_
 rintro e w' ⟨rfl, rfl⟩
 clear h1
 go_wp2
 have bX := ag (.cells #[.slice ra rn ca, .slice rb zn cb, .slice rc kn cc] 38) (.cells #[.string nm, .slice a es.length cap] 146)
 clear ag
 have eN := hA.below bX
 have dC := hv.below bX
 obtain ⟨x0, x1, x2, x3⟩ : (fun z : World => z.cell? (ad w.heap.size 0) = some (.slice ra rn ca) /\ z.cell? (ad w.heap.size 1) = some (.slice rb zn cb) /\ z.cell? (ad w.heap.size 2) = some (.slice rc kn cc) /\ z.cell? (ad (w.heap.size + 1) 1) = some (.slice a es.length cap)) ((w.alloc (.cells #[.slice ra rn ca, .slice rb zn cb, .slice rc kn cc] 38)).alloc (.cells #[.string nm, .slice a es.length cap] 146)) := by simp [go_sem]
 generalize hW : ((w.alloc (.cells #[.slice ra rn ca, .slice rb zn cb, .slice rc kn cc] 38)).alloc (.cells #[.string nm, .slice a es.length cap] 146)) = W at *
 go_loopw [6] (fun i wr => ∃ k : Nat, k <= es.length /\ i = iv k /\ Hid (∀ j, j < k -> ∀ x, es[j]? = some x -> StepM r.rules es j x) /\ Bw W wr) (fun i _ => es.length - (intOf i).toNat)
 case atStart => exact ⟨0, by omega, rfl, fun j hj => by omega, by subst hW; exact brf _ _⟩
 case round =>
  obtain ⟨k, hk, rfl, ak, hB⟩ := hrel
  by_cases hlt : k < es.length
  ·obtain ⟨x, hx⟩ := qgg hlt
   have vV := m3 x (lmg hx)
   have fG : Bw W (wr.alloc (.cells #[iv x.offset, .string x.rules, iv x.save, .string x.format, iv x.until_, .string x.of] 178)) := hB.alloc hB.size _
   obtain ⟨b, o, rfl, hc⟩ := (eN.below hB).at (i := k) (r := x.cs) (by rw [lgm, hx]; rfl)
   have c0 : wr.cell? (ad b (o + k * 6)) = some (iv x.offset) := hc 0 _ rfl
   have c1 := hc 1 _ rfl
   have c2 := hc 2 _ rfl
   have c3 := hc 3 _ rfl
   have c4 := hc 4 _ rfl
   have c5 := hc 5 _ rfl
   clear hc
   have y3 : wr.cell? (ad (w.heap.size + 1) 1) = some (.slice (some (ad b o)) es.length cap) := by rw [(jaf hB).1 _ _ (qbl x3)]; exact x3
   have k0 := cell_regrown ((jaf fG).1 _ _ (qbl x0) |>.trans x0)
   have k1 := cell_regrown ((jaf fG).1 _ _ (qbl x1) |>.trans x1)
   have k2 := cell_regrown ((jaf fG).1 _ _ (qbl x2) |>.trans x2)
   have k3 := cell_regrown ((jaf fG).1 _ _ (qbl x3) |>.trans x3)
   have e0 := cell_regrown (w := wr.alloc (.cells #[iv x.offset, .string x.rules, iv x.save, .string x.format, iv x.until_, .string x.of] 178)) (show _ = some (iv x.offset) from by first | (simp; done) | simp [go_sem] : (wr.alloc (.cells #[iv x.offset, .string x.rules, iv x.save, .string x.format, iv x.until_, .string x.of] 178)).cell? (ad wr.heap.size 0) = _)
   have e1 := cell_regrown (w := wr.alloc (.cells #[iv x.offset, .string x.rules, iv x.save, .string x.format, iv x.until_, .string x.of] 178)) (show _ = some (Value.string x.rules) from by first | (simp; done) | simp [go_sem] : (wr.alloc (.cells #[iv x.offset, .string x.rules, iv x.save, .string x.format, iv x.until_, .string x.of] 178)).cell? (ad wr.heap.size 1) = _)
   have e2 := cell_regrown (w := wr.alloc (.cells #[iv x.offset, .string x.rules, iv x.save, .string x.format, iv x.until_, .string x.of] 178)) (show _ = some (iv x.save) from by first | (simp; done) | simp [go_sem] : (wr.alloc (.cells #[iv x.offset, .string x.rules, iv x.save, .string x.format, iv x.until_, .string x.of] 178)).cell? (ad wr.heap.size 2) = _)
   have e3 := cell_regrown (w := wr.alloc (.cells #[iv x.offset, .string x.rules, iv x.save, .string x.format, iv x.until_, .string x.of] 178)) (show _ = some (Value.string x.format) from by first | (simp; done) | simp [go_sem] : (wr.alloc (.cells #[iv x.offset, .string x.rules, iv x.save, .string x.format, iv x.until_, .string x.of] 178)).cell? (ad wr.heap.size 3) = _)
   have e4 := cell_regrown (w := wr.alloc (.cells #[iv x.offset, .string x.rules, iv x.save, .string x.format, iv x.until_, .string x.of] 178)) (show _ = some (iv x.until_) from by first | (simp; done) | simp [go_sem] : (wr.alloc (.cells #[iv x.offset, .string x.rules, iv x.save, .string x.format, iv x.until_, .string x.of] 178)).cell? (ad wr.heap.size 4) = _)
   have e5 := cell_regrown (w := wr.alloc (.cells #[iv x.offset, .string x.rules, iv x.save, .string x.format, iv x.until_, .string x.of] 178)) (show _ = some (Value.string x.of) from by first | (simp; done) | simp [go_sem] : (wr.alloc (.cells #[iv x.offset, .string x.rules, iv x.save, .string x.format, iv x.until_, .string x.of] 178)).cell? (ad wr.heap.size 5) = _)
   have cE : ∀ dd os, Cl _ _ (grow (redrawn (wr.alloc (.cells #[iv x.offset, .string x.rules, iv x.save, .string x.format, iv x.until_, .string x.of] 178)) dd) os) fun e cr => e = .returned (.bool (eraM r.rules x)) /\ ∃ p : Regrown, cr = grow (redrawn (wr.alloc (.cells #[iv x.offset, .string x.rules, iv x.save, .string x.format, iv x.until_, .string x.of] 178)) p.d) p.os := fun dd os => Calls.regrown_of (jps r _ x _ ((dC.below fG).below (below_regrown _ dd os)) vV (by omega))
   unfold EraD.v at cE
   go_wp2_with fail
   generalize hV : (wr.alloc (.cells #[iv x.offset, .string x.rules, iv x.save, .string x.format, iv x.until_, .string x.of] 178)) = V at *
   generalize wr.heap.size = g at *
   clear c0 c1 c2 c3 c4 c5 y3
   cases hbe : eraM r.rules x
   ·rw [hbe] at cE
    have HR : Hid (zb = false) := HN.out k x hx fun h => by have := h.era; rw [hbe] at this; cases this
    clear HZ HN
    refine wp_region_quiet_below (by kernel_rfl) (by kernel_rfl) ?_
    repeat (first | go_big_quiet_step ((go_at_call 118; exact cE _ _)) | quiet_step ((go_at_call 118; exact cE _ _)))
    refine wpQuiet_nil ?_
    intro _ bL
    obtain ⟨⟨dq, aQ⟩, aP⟩ := bL
    subst aP
    have ac := below_regrown V dq aQ
    go_wp2
    go_ret
    exact ⟨ret_bool HR.out.symm, bX.trans ((qtr fG ac).mono bX.size)⟩
   ·rw [hbe] at cE
    by_cases Cf : k = 0
    ·have mG : decide ((0 : Int) < (k : Int)) = false := by simp; omega
     have lG : decide (0 < k) = false := by simp; omega
     have eU := hid Cf
     clear Cf
     by_cases g1 : Hid (x.until_ = 253402300799)
     ·have AA : (x.until_ == 253402300799) = true := by simpa using g1.out
      by_cases g2 : Hid (k + 1 = es.length)
      ·have kr : ((((k : Nat) : Int)) == ((es.length : Int) - 1)) = true := by have := g2.out; simp; omega
       cases g3 : (x.of.toList == [119])
       ·have g4 : Hid (x.of.toList ≠ [119]) := by simp only [Hid]; simpa using g3
        have HR : Hid (zb = false) := HN.out (k) x hx fun h => by exact g4.out (h.of g2.out)
        clear HZ HN ak
        refine wp_region_quiet_below (by kernel_rfl) (by kernel_rfl) ?_
        repeat (first | go_big_quiet_step ((go_at_call 118; exact cE _ _)) | quiet_step ((go_at_call 118; exact cE _ _)))
        refine wpQuiet_nil ?_
        intro _ bL
        obtain ⟨⟨dq, aQ⟩, aP⟩ := bL
        subst aP
        have ac := below_regrown V dq aQ
        go_wp2
        go_ret
        exact ⟨ret_bool HR.out.symm, bX.trans ((qtr fG ac).mono bX.size)⟩
       ·have g4 : Hid (x.of.toList = [119]) := by simp only [Hid]; simpa using g3
        have HR : Hid (∀ i, i < k + 1 -> ∀ y, es[i]? = some y -> StepM r.rules es i y) := fun i hi y hy => by
         by_cases e : i = k
         ·subst e; rw [hx] at hy; obtain rfl := osi hy; exact ⟨hbe, fun j p hj _ => by have := eU.out; omega, ⟨fun _ => g2.out, fun _ => g1.out⟩, fun _ => g4.out⟩
         ·exact ak.out i (by omega) y hy
        clear HZ HN ak
        refine wp_region_quiet_below (by kernel_rfl) (by kernel_rfl) ?_
        repeat (first | go_big_quiet_step ((go_at_call 118; exact cE _ _)) | quiet_step ((go_at_call 118; exact cE _ _)))
        refine wpQuiet_nil ?_
        intro _ bL
        obtain ⟨⟨dq, aQ⟩, aP⟩ := bL
        subst aP
        have ac := below_regrown V dq aQ
        go_wp2
        go_roundw
        case rel => exact ⟨k + 1, by omega, by go_num, HR, (qtr fG ac)⟩
        case measure => simp [intOf]; omega
      ·have kr : ((((k : Nat) : Int)) == ((es.length : Int) - 1)) = false := by have tS : ¬ (k + 1 = es.length) := fun h => g2 h; simp; omega
       have HR : Hid (zb = false) := HN.out (k) x hx fun h => by exact g2 (h.last.mp g1.out)
       clear HZ HN ak
       refine wp_region_quiet_below (by kernel_rfl) (by kernel_rfl) ?_
       repeat (first | go_big_quiet_step ((go_at_call 118; exact cE _ _)) | quiet_step ((go_at_call 118; exact cE _ _)))
       refine wpQuiet_nil ?_
       intro _ bL
       obtain ⟨⟨dq, aQ⟩, aP⟩ := bL
       subst aP
       have ac := below_regrown V dq aQ
       go_wp2
       go_ret
       exact ⟨ret_bool HR.out.symm, bX.trans ((qtr fG ac).mono bX.size)⟩
     ·have AA : (x.until_ == 253402300799) = false := by simp; exact fun h => g1 h
      by_cases g2 : Hid (k + 1 = es.length)
      ·have kr : ((((k : Nat) : Int)) == ((es.length : Int) - 1)) = true := by have := g2.out; simp; omega
       have HR : Hid (zb = false) := HN.out (k) x hx fun h => by exact g1 (h.last.mpr g2.out)
       clear HZ HN ak
       refine wp_region_quiet_below (by kernel_rfl) (by kernel_rfl) ?_
       repeat (first | go_big_quiet_step ((go_at_call 118; exact cE _ _)) | quiet_step ((go_at_call 118; exact cE _ _)))
       refine wpQuiet_nil ?_
       intro _ bL
       obtain ⟨⟨dq, aQ⟩, aP⟩ := bL
       subst aP
       have ac := below_regrown V dq aQ
       go_wp2
       go_ret
       exact ⟨ret_bool HR.out.symm, bX.trans ((qtr fG ac).mono bX.size)⟩
      ·have kr : ((((k : Nat) : Int)) == ((es.length : Int) - 1)) = false := by have tS : ¬ (k + 1 = es.length) := fun h => g2 h; simp; omega
       have HR : Hid (∀ i, i < k + 1 -> ∀ y, es[i]? = some y -> StepM r.rules es i y) := fun i hi y hy => by
        by_cases e : i = k
        ·subst e; rw [hx] at hy; obtain rfl := osi hy; exact ⟨hbe, fun j p hj _ => by have := eU.out; omega, ⟨fun h => absurd h g1, fun h => absurd h g2⟩, fun h => absurd h g2⟩
        ·exact ak.out i (by omega) y hy
       clear HZ HN ak
       refine wp_region_quiet_below (by kernel_rfl) (by kernel_rfl) ?_
       repeat (first | go_big_quiet_step ((go_at_call 118; exact cE _ _)) | quiet_step ((go_at_call 118; exact cE _ _)))
       refine wpQuiet_nil ?_
       intro _ bL
       obtain ⟨⟨dq, aQ⟩, aP⟩ := bL
       subst aP
       have ac := below_regrown V dq aQ
       go_wp2
       go_roundw
       case rel => exact ⟨k + 1, by omega, by go_num, HR, (qtr fG ac)⟩
       case measure => simp [intOf]; omega
    ·obtain ⟨j, rfl⟩ : ∃ j, k = j + 1 := ⟨k - 1, by omega⟩
     obtain ⟨q, hq⟩ : ∃ q, es[j]? = some q := ⟨_, lgg (by omega)⟩
     obtain ⟨b', o', he, hd⟩ := (eN.below fG).at (i := j) (r := q.cs) (by rw [lgm, hq]; rfl)
     injection he with he
     injection he with u1 u2
     subst u1 u2
     have p4 := cell_regrown (hd 4 _ rfl)
     clear hd
     by_cases hu : q.until_ < x.until_
     ·have Lq : decide (x.until_ <= q.until_) = false := by simpa using hu
      by_cases g1 : Hid (x.until_ = 253402300799)
      ·have AA : (x.until_ == 253402300799) = true := by simpa using g1.out
       by_cases g2 : Hid (j + 1 + 1 = es.length)
       ·have kr : ((((j + 1 : Nat) : Int)) == ((es.length : Int) - 1)) = true := by have := g2.out; simp; omega
        have g5 : (((j : Int) + 1) == ((es.length : Int) - 1)) = true := by have := g2.out; simp; omega
        cases g3 : (x.of.toList == [119])
        ·have g4 : Hid (x.of.toList ≠ [119]) := by simp only [Hid]; simpa using g3
         have HR : Hid (zb = false) := HN.out (j + 1) x hx fun h => by exact g4.out (h.of g2.out)
         clear HZ HN ak
         refine wp_region_quiet_below (by kernel_rfl) (by kernel_rfl) ?_
         repeat (first | go_big_quiet_step ((go_at_call 118; exact cE _ _)) | quiet_step ((go_at_call 118; exact cE _ _)))
         refine wpQuiet_nil ?_
         intro _ bL
         obtain ⟨⟨dq, aQ⟩, aP⟩ := bL
         subst aP
         have ac := below_regrown V dq aQ
         go_wp2
         go_ret
         exact ⟨ret_bool HR.out.symm, bX.trans ((qtr fG ac).mono bX.size)⟩
        ·have g4 : Hid (x.of.toList = [119]) := by simp only [Hid]; simpa using g3
         have HR : Hid (∀ i, i < j + 1 + 1 -> ∀ y, es[i]? = some y -> StepM r.rules es i y) := fun i hi y hy => by
          by_cases e : i = j + 1
          ·subst e; rw [hx] at hy; obtain rfl := osi hy; exact ⟨hbe, fun i p hi hp => by obtain rfl : i = j := (by omega); rw [hq] at hp; obtain rfl := osi hp; exact hu, ⟨fun _ => g2.out, fun _ => g1.out⟩, fun _ => g4.out⟩
          ·exact ak.out i (by omega) y hy
         clear HZ HN ak
         refine wp_region_quiet_below (by kernel_rfl) (by kernel_rfl) ?_
         repeat (first | go_big_quiet_step ((go_at_call 118; exact cE _ _)) | quiet_step ((go_at_call 118; exact cE _ _)))
         refine wpQuiet_nil ?_
         intro _ bL
         obtain ⟨⟨dq, aQ⟩, aP⟩ := bL
         subst aP
         have ac := below_regrown V dq aQ
         go_wp2
         go_roundw
         case rel => exact ⟨j + 1 + 1, by omega, by go_num, HR, (qtr fG ac)⟩
         case measure => simp [intOf]; omega
       ·have kr : ((((j + 1 : Nat) : Int)) == ((es.length : Int) - 1)) = false := by have tS : ¬ (j + 1 + 1 = es.length) := fun h => g2 h; simp; omega
        have g5 : (((j : Int) + 1) == ((es.length : Int) - 1)) = false := by have tS : ¬ (j + 1 + 1 = es.length) := fun h => g2 h; simp; omega
        have HR : Hid (zb = false) := HN.out (j + 1) x hx fun h => by exact g2 (h.last.mp g1.out)
        clear HZ HN ak
        refine wp_region_quiet_below (by kernel_rfl) (by kernel_rfl) ?_
        repeat (first | go_big_quiet_step ((go_at_call 118; exact cE _ _)) | quiet_step ((go_at_call 118; exact cE _ _)))
        refine wpQuiet_nil ?_
        intro _ bL
        obtain ⟨⟨dq, aQ⟩, aP⟩ := bL
        subst aP
        have ac := below_regrown V dq aQ
        go_wp2
        go_ret
        exact ⟨ret_bool HR.out.symm, bX.trans ((qtr fG ac).mono bX.size)⟩
      ·have AA : (x.until_ == 253402300799) = false := by simp; exact fun h => g1 h
       by_cases g2 : Hid (j + 1 + 1 = es.length)
       ·have kr : ((((j + 1 : Nat) : Int)) == ((es.length : Int) - 1)) = true := by have := g2.out; simp; omega
        have g5 : (((j : Int) + 1) == ((es.length : Int) - 1)) = true := by have := g2.out; simp; omega
        have HR : Hid (zb = false) := HN.out (j + 1) x hx fun h => by exact g1 (h.last.mpr g2.out)
        clear HZ HN ak
        refine wp_region_quiet_below (by kernel_rfl) (by kernel_rfl) ?_
        repeat (first | go_big_quiet_step ((go_at_call 118; exact cE _ _)) | quiet_step ((go_at_call 118; exact cE _ _)))
        refine wpQuiet_nil ?_
        intro _ bL
        obtain ⟨⟨dq, aQ⟩, aP⟩ := bL
        subst aP
        have ac := below_regrown V dq aQ
        go_wp2
        go_ret
        exact ⟨ret_bool HR.out.symm, bX.trans ((qtr fG ac).mono bX.size)⟩
       ·have kr : ((((j + 1 : Nat) : Int)) == ((es.length : Int) - 1)) = false := by have tS : ¬ (j + 1 + 1 = es.length) := fun h => g2 h; simp; omega
        have g5 : (((j : Int) + 1) == ((es.length : Int) - 1)) = false := by have tS : ¬ (j + 1 + 1 = es.length) := fun h => g2 h; simp; omega
        have HR : Hid (∀ i, i < j + 1 + 1 -> ∀ y, es[i]? = some y -> StepM r.rules es i y) := fun i hi y hy => by
         by_cases e : i = j + 1
         ·subst e; rw [hx] at hy; obtain rfl := osi hy; exact ⟨hbe, fun i p hi hp => by obtain rfl : i = j := (by omega); rw [hq] at hp; obtain rfl := osi hp; exact hu, ⟨fun h => absurd h g1, fun h => absurd h g2⟩, fun h => absurd h g2⟩
         ·exact ak.out i (by omega) y hy
        clear HZ HN ak
        refine wp_region_quiet_below (by kernel_rfl) (by kernel_rfl) ?_
        repeat (first | go_big_quiet_step ((go_at_call 118; exact cE _ _)) | quiet_step ((go_at_call 118; exact cE _ _)))
        refine wpQuiet_nil ?_
        intro _ bL
        obtain ⟨⟨dq, aQ⟩, aP⟩ := bL
        subst aP
        have ac := below_regrown V dq aQ
        go_wp2
        go_roundw
        case rel => exact ⟨j + 1 + 1, by omega, by go_num, HR, (qtr fG ac)⟩
        case measure => simp [intOf]; omega
     ·have Lq : decide (x.until_ <= q.until_) = true := by simpa using hu
      have HR : Hid (zb = false) := HN.out (j + 1) x hx fun h => by exact hu (h.up j q rfl hq)
      clear HZ HN ak
      refine wp_region_quiet_below (by kernel_rfl) (by kernel_rfl) ?_
      repeat (first | go_big_quiet_step ((go_at_call 118; exact cE _ _)) | quiet_step ((go_at_call 118; exact cE _ _)))
      refine wpQuiet_nil ?_
      intro _ bL
      obtain ⟨⟨dq, aQ⟩, aP⟩ := bL
      subst aP
      have ac := below_regrown V dq aQ
      go_wp2
      go_ret
      exact ⟨ret_bool HR.out.symm, bX.trans ((qtr fG ac).mono bX.size)⟩
  ·have e : k = es.length := by omega
   subst e
   have HR : Hid (zb = true) := HZ.out fun j y hy => ak.out j (lgs hy).1 y hy
   go_wp2
   go_ret
   exact ⟨ret_bool HR.out.symm, bX.trans (hB.mono bX.size)⟩
end
section
open Go.RowKit
theorem jq6 {α : Type} [DecidableEq α] [Inhabited α] (zs : List α) : (Lib.compact zs).length = zs.length ↔ ∀ j, j < zs.length -> Lib.keeps zs.toArray j = true := by
 unfold Lib.compact Lib.compactUpTo
 rw [llm]
 have h := List.length_filter_eq_length_iff (p := Lib.keeps zs.toArray) (l := List.range zs.length)
 rw [List.length_range] at h
 rw [h]
 exact ⟨fun h j hj => h j (List.mem_range.mpr hj), fun h j hj => h j (List.mem_range.mp hj)⟩
theorem joe {α : Type} [DecidableEq α] [Inhabited α] (zs : List α) (j : Nat) (hj : j < zs.length) : Lib.keeps zs.toArray j = true ↔ (j = 0 \/ zs[j]? ≠ zs[j - 1]?) := by
 unfold Lib.keeps
 rw [decide_eq_true_iff]
 have e : ∀ i, i < zs.length -> zs.toArray[i]! = zs[i]! := fun i hi => by simp [hi]
 rw [e j hj, e (j - 1) (by omega)]
 have e2 : ∀ i (hi : i < zs.length), zs[i]! = zs[i] := fun i hi => by simp [hi]
 rw [e2 j hj, e2 (j - 1) (by omega), lgg hj, lgg (show j - 1 < zs.length by omega)]
 simp
theorem jii {l : List (List UInt8)} (hs : l.Pairwise (· <= ·)) : (∀ j, j < l.length -> (j = 0 \/ l[j]? ≠ l[j - 1]?)) ↔ l.Nodup := by
 constructor
 ·intro h
  rw [List.nodup_iff_pairwise_ne, List.pairwise_iff_getElem]
  intro i j hi hj gq he
  rw [List.pairwise_iff_getElem] at hs
  have h1 : l[i] <= l[i + 1] := hs i (i + 1) hi (by omega) (by omega)
  have h2 : l[i + 1] <= l[j] := by
   by_cases e : i + 1 = j
   ·subst e; exact List.le_refl _
   ·exact hs (i + 1) j (by omega) hj (by omega)
  rw [<- he] at h2
  have e3 : l[i + 1] = l[i] := List.le_antisymm h2 h1
  rcases h (i + 1) (by omega) with h4 | h4
  ·omega
  ·apply h4
   rw [show i + 1 - 1 = i by omega, lgg (show i + 1 < l.length by omega), lgg hi, e3]
 ·intro h j hj
  by_cases e : j = 0
  ·exact .inl e
  ·right
   rw [lgg hj, lgg (show j - 1 < l.length by omega)]
   intro he
   rw [List.nodup_iff_pairwise_ne, List.pairwise_iff_getElem] at h
   exact h (j - 1) j (by omega) hj (by omega) (osi he).symm
theorem jlv (l : List (List UInt8)) : (l.mergeSort fun x y => decide (x <= y)).Pairwise (· <= ·) := by
 have := List.pairwise_mergeSort (le := fun (x y : List UInt8) => decide (x <= y)) (fun a b c h1 h2 => by
  simp at h1 h2 ⊢; exact List.le_trans h1 h2) (fun a b => by
  simp only [Bool.or_eq_true, decide_eq_true_eq]; exact List.le_total a b) l
 exact this.imp fun h => by simpa using h
theorem jmr (l : List (List UInt8)) : ((Lib.compact (l.mergeSort fun x y => decide (x <= y))).length = l.length) ↔ l.Nodup := by
 have hl : (l.mergeSort fun x y => decide (x <= y)).length = l.length := List.length_mergeSort l
 rw [<- hl, jq6]
 have hp := List.mergeSort_perm l (fun x y => decide (x <= y))
 rw [<- hp.nodup_iff, <- jii (jlv l)]
 exact ⟨fun h j hj => (joe _ j hj).mp (h j hj), fun h j hj => (joe _ j hj).mpr (h j hj)⟩
theorem jij (l : List (List UInt8)) : (∀ (k : Nat) x, l[k]? = some x -> ¬ x ∈ l.take k) ↔ l.Nodup := by
 rw [List.nodup_iff_pairwise_ne, List.pairwise_iff_getElem]
 constructor
 ·intro h i j hi hj gq he
  refine h j l[j] (lgg hj) ?_
  rw [<- he]
  exact List.mem_take_iff_getElem.mpr ⟨i, by omega, rfl⟩
 ·intro h k x hk hm
  obtain ⟨mG, rfl⟩ := lgs hk
  obtain ⟨i, hi, he⟩ := List.mem_take_iff_getElem.mp hm
  exact h i k (by omega) mG (by omega) he
def jgx (r : RelD) : List ByteArray := r.zones.map ZoneD.name ++ r.links.map LinkD.name
def jhc (l : List ByteArray) : List (List UInt8) := l.map (·.data.toList)
def jes (r : RelD) : Bool := decide (jhc (jgx r)).Nodup
set_option maxRecDepth 100000 in
theorem jwm : ∃ i : TypeInfo, Tryz.prog.info? 9 = some i /\ i.zero = some (.string ⟨#[]⟩) /\ i.size = 1 /\ i.bytes = 16 := ⟨_, rfl, rfl, rfl, rfl⟩
theorem jta (w : World) (t : TypeId) : (w.alloc (.cells #[] t)).ownsRow w.heap.size t 1 (.slice (some (ad w.heap.size 0)) 0 0) 0 [] :=
 ⟨rfl, .inr ⟨w.heap.size, 0, #[], rfl, nlr _, (MapKept.heap_alloc w _).1, nlr _, by unfold maxLen; omega, rfl, rfl⟩⟩
theorem jzc (w : World) (base : Nat) (t : TypeId) : w.ownsRow base t 1 nS 0 [] := ⟨rfl, .inl ⟨rfl, rfl⟩⟩
theorem jhq {w : World} {base : Nat} {e : TypeId} {size : Nat} {v : Value} {n : Nat} {xs : List Value} (h : w.ownsRow base e size v n xs) : ∀ k, v.ownBlock = some k -> base <= k := by
 intro k hk
 rcases h.2 with ⟨rfl, _⟩ | ⟨g, cap, cur, rfl, hg, _⟩
 ·cases hk
 ·simp [Value.ownBlock] at hk; omega
theorem jef {l : List ByteArray} {k : Nat} {x : ByteArray} (h : l[k]? = some x) : (l.take (k + 1)).map Value.string = (l.take k).map Value.string ++ [.string x] := by
 rw [List.take_add_one, h]; simp
theorem jhg (r : RelD) (v : Value) (w : World) (hv : Zd w v r) (hz : r.zones.length <= 1048576) (hl : r.links.length <= 1048576) :
  Cl 131 #[v] w fun e w' => e = .returned (.bool (jes r)) /\ Bw w w' := by
 obtain ⟨a, b, c, ca, cb, cc, rfl, _, hZ, hA⟩ := hv.form
 obtain ⟨i0, hi, aH, aI, aG⟩ := jwm
 clear hv
 have HB : Hid (jes r = decide (jhc (r.zones.map ZoneD.name ++ r.links.map LinkD.name)).Nodup) := rfl
 generalize jes r = nb at *
 generalize r.rules.length = rn at *
 generalize r.links = l at *
 generalize r.zones = zs at *
 have ag := qal w (.cells #[.slice a rn ca, .slice b zs.length cb, .slice c l.length cc] 38)
 have eN := hA.below ag
 have jp := hZ.below ag
 have ai : (w.alloc (.cells #[.slice a rn ca, .slice b zs.length cb, .slice c l.length cc] 38)).cell? (ad w.heap.size 2) = some (.slice c l.length cc) := by simp
 go_enter Tryz.func131, Tryz.ntmps131
 go_wp2
 generalize hW : (w.alloc (.cells #[.slice a rn ca, .slice b zs.length cb, .slice c l.length cc] 38)) = W at *
 go_loopw [3, 12] (fun s i wr => ∃ k : Nat, k <= zs.length /\ i = iv k /\ wr.ownsRow W.heap.size 9 1 s k (((zs.map ZoneD.name).take k).map Value.string) /\ Bw W wr) (fun _ i _ => zs.length - (intOf i).toNat)
 case atStart => exact ⟨0, by omega, rfl, jzc _ _ _, by subst hW; exact brf _ _⟩
 case round =>
  obtain ⟨k, hk, rfl, hO, hB⟩ := hrel
  by_cases hlt : k < zs.length
  ·obtain ⟨x, hx⟩ := qgg hlt
   obtain ⟨b', o, rfl, c0, v, c1, hv⟩ := (jp.below hB).at hx
   have hs := jef (l := zs.map ZoneD.name) (k := k) (x := x.name) (by rw [lgm, hx]; rfl)
   have HS := hid hs
   obtain ⟨ae, ce, rfl, _⟩ := hv
   clear hs
   have hsz := hB.size
   generalize ((zs.map ZoneD.name).take k).map Value.string = xs at *
   go_wp2_with (first
    | (at_builtin; refine wpList_append_own _ rfl _ _ 140 rfl W.heap.size 9 i0 (.string ⟨#[]⟩) 1 16 Tryz.underlying140 hi aH aI aG rfl (by decide) _ _ _ rfl ((hO.alloc _).alloc _) ⟨wr.heap.size + 1, 0, none⟩ 1 1 [.string x.name] rfl rfl ?c1 ?c2 ?c3 ?c4 ?c5 ?_)
    | fail)
   case c1 => simp [go_sem]
   case c2 => intro u hu; simp at hu; subst hu; rfl
   case c3 => unfold maxLen; omega
   case c4 => omega
   case c5 => simp; omega
   ·intro v' w1 ar af _
    have aj : Bw W w1 := ((hB.alloc hsz _).alloc (by simp; omega) _).grown af (by simp; omega) (jhq hO)
    clear af hO
    go_wp2
    go_roundw
    case rel => exact ⟨k + 1, by omega, by go_num, by rw [HS.out]; exact ar, aj⟩
    case measure => simp [intOf]; omega
  ·have e : k = zs.length := by omega
   subst e
   rw [List.take_of_length_le (by simp)] at hO
   have y2 : wr.cell? (ad w.heap.size 2) = some (.slice c l.length cc) := by rw [(jaf hB).1 _ _ (qbl ai)]; exact ai
   go_wp2
   obtain ⟨wo, rfl⟩ := qea wr
   go_loopw [3, 25] (fun s i wr => ∃ k : Nat, k <= l.length /\ i = iv k /\ wr.ownsRow W.heap.size 9 1 s (zs.length + k) ((zs.map ZoneD.name ++ (l.map LinkD.name).take k).map Value.string) /\ Bw W wr) (fun _ i _ => l.length - (intOf i).toNat)
   case atStart => exact ⟨0, by omega, rfl, by simpa using hO, hB⟩
   case round =>
    clear hO hB y2
    obtain ⟨m, hm, rfl, hO, hB⟩ := hrel
    by_cases hlt2 : m < l.length
    ·obtain ⟨x, hx⟩ := qgg hlt2
     obtain ⟨b', o, rfl, hc⟩ := (eN.below hB).at (i := m) (r := x.cs) (by rw [lgm, hx]; rfl)
     have c0 : wr.cell? (ad b' (o + m * 2)) = some (.string x.to_) := hc 0 _ rfl
     have c1 := hc 1 _ rfl
     clear hc
     have hs := jef (l := l.map LinkD.name) (k := m) (x := x.name) (by rw [lgm, hx]; rfl)
     have HS : Hid ((zs.map ZoneD.name ++ (l.map LinkD.name).take (m + 1)).map Value.string = (zs.map ZoneD.name ++ (l.map LinkD.name).take m).map Value.string ++ [.string x.name]) := by
      simp only [Hid]; rw [lma, hs, <- List.append_assoc, <- lma]
     clear hs
     have hsz := hB.size
     generalize (zs.map ZoneD.name ++ (l.map LinkD.name).take m).map Value.string = xs at *
     obtain ⟨n, hn⟩ : ∃ n, n = zs.length + m := ⟨_, rfl⟩
     have HN : Hid (zs.length + (m + 1) = n + 1) := by simp only [Hid]; omega
     have gO : n <= 2097152 := by omega
     rw [<- hn] at hO
     clear hn
     go_wp2_with (first
      | (at_builtin; refine wpList_append_own _ rfl _ _ 140 rfl W.heap.size 9 i0 (.string ⟨#[]⟩) 1 16 Tryz.underlying140 hi aH aI aG rfl (by decide) _ _ _ rfl ((hO.alloc _).alloc _) ⟨wr.heap.size + 1, 0, none⟩ 1 1 [.string x.name] rfl rfl ?c1 ?c2 ?c3 ?c4 ?c5 ?_)
      | fail)
     case c1 => simp [go_sem]
     case c2 => intro u hu; simp at hu; subst hu; rfl
     case c3 => unfold maxLen; omega
     case c4 => omega
     case c5 => simp; omega
     ·intro v' w1 ar af _
      have aj : Bw W w1 := ((hB.alloc hsz _).alloc (by simp; omega) _).grown af (by simp; omega) (jhq hO)
      clear af hO
      go_wp2
      go_roundw
      case rel => exact ⟨m + 1, by omega, by go_num, by rw [HS.out, HN.out]; exact ar, aj⟩
      case measure => simp [intOf]; omega
    ·have e : m = l.length := by omega
     subst e
     rw [List.take_of_length_le (by simp)] at hO
     obtain ⟨n, hn⟩ : ∃ n, n = zs.length + l.length := ⟨_, rfl⟩
     have gO : n <= 2097152 := by omega
     rw [<- hn] at hO
     have au : (zs.map ZoneD.name ++ l.map LinkD.name).length = n := by simp [hn]
     generalize zs.map ZoneD.name ++ l.map LinkD.name = ns at *
     clear hn
     have By := hO
     rw [<- Lib.map_encStr] at By
     rcases hO.2 with ⟨rfl, rfl⟩ | ⟨g, cap, cur, rfl, _, _, _, _, _, _⟩
     ·have HR : Hid (nb = true) := by
       simp only [Hid]; rw [HB.out, List.eq_nil_of_length_eq_zero au]; rfl
      have hS := fun w => Tryz.slices_Sort_string_none none 0 w
      have hC := fun w => Tryz.slices_Compact_string_empty none 0 w
      go_wp2_with (first | (go_at_call 164; refine (hS _).mono ?_; rintro e w' ⟨rfl, rfl⟩) | (go_at_call 165; refine (hC _).mono ?_; rintro e w' ⟨rfl, rfl⟩))
      go_ret
      exact ⟨ret_bool HR.out.symm, (qtr ag hB)⟩
     ·obtain ⟨g', fO, he, xS, mE, vu, qx, sX, hH⟩ := Lib.holds_of_ownsRow By (by simp)
      injection he with lF _ iV
      injection lF with lF
      injection lF with lF
      subst lF iV
      have hS := Tryz.slices_Sort_string g 0 cap (ns.map (·.data.toList)) wr hH mE (by omega)
      rw [sX] at hS
      have j8 : ((ns.map (·.data.toList)).mergeSort fun x y => decide (x <= y)).length = n := by rw [List.length_mergeSort]; exact sX
      have hC := fun w' ji => Tryz.slices_Compact_string g 0 cap ((ns.map (·.data.toList)).mergeSort fun x y => decide (x <= y)) w' ji (by omega) (by omega)
      have hK := jmr (ns.map (·.data.toList))
      rw [sX] at hK
      have Kf : ∀ q os, Go.Sort.Holds encStr (Go.Sort.grow (Go.Sort.putRow encStr (Go.Sort.ahead wr q) g 0 ((ns.map (·.data.toList)).mergeSort fun x y => decide (x <= y)).toArray) os) g 0 ((ns.map (·.data.toList)).mergeSort fun x y => decide (x <= y)).toArray := fun q os =>
       Go.Sort.holds_grow _ _ _ _ _ _ (by simpa using mE) (Go.Sort.holds_putRow _ _ _ _ _ _ (Go.Sort.holds_ahead _ _ _ _ _ _ hH) (by simp))
      rw [j8] at hC
      have HR : Hid (nb = (((Lib.compact ((ns.map (·.data.toList)).mergeSort fun x y => decide (x <= y))).length : Int) == (n : Int))) := by
       simp only [Hid]
       rw [HB.out, Bool.eq_iff_iff]
       simp only [decide_eq_true_eq, beq_iff_eq, Int.natCast_inj]
       exact hK.symm
      have xU : (Lib.compact ((ns.map (·.data.toList)).mergeSort fun x y => decide (x <= y))).length <= n := by
       unfold Lib.compact Lib.compactUpTo
       rw [llm]
       have := List.length_filter_le (Lib.keeps ((ns.map (·.data.toList)).mergeSort fun x y => decide (x <= y)).toArray) (List.range ((ns.map (·.data.toList)).mergeSort fun x y => decide (x <= y)).length)
       rw [List.length_range] at this
       exact Nat.le_trans this (Nat.le_of_eq j8)
      generalize (ns.map (·.data.toList)).mergeSort (fun x y => decide (x <= y)) = so at *
      generalize (Lib.compact so).length = cl at *
      clear hO By hH hK HB j8 sX au
      go_wp2_with fail
      refine hS.mono ?_
      rintro e w2 ⟨rfl, q, os, rfl⟩
      go_wp2_with fail
      refine (hC _ (Kf q os)).mono ?_
      rintro e w3 ⟨rfl, q2, rfl⟩
      go_wp2
      go_ret
      refine ⟨ret_bool HR.out.symm, ag.trans (Below.mono (Lib.below_putRow ?_ xS) ag.size)⟩
      have hb1 := Lib.below_putRow (enc := encStr) (q := q) (d := so.toArray) hB xS
      exact ⟨hb1.os, hb1.tape, hb1.output, by simp; have := hb1.size; simp at this; omega, fun k hk => by rw [Go.Sort.heap_grow_old _ _ (by have := hb1.size; omega)]; exact hb1.block k hk⟩
end
end Go.Proofs.YtgiieknbckhofaaGreatDoor
