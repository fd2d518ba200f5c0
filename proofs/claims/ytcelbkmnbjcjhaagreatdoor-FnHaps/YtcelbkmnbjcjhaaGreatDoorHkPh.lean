/- Packed: HkMath Hp19 Hp20 Hk1. -/
import Derived.Test.YtcelbkmnbjcjhaaGreatDoorTbQh
import Derived.Test.YtcelbkmnbjcjhaaGreatDoorMapPh
import Derived.Test.YtcelbkmnbjcjhaaGreatDoorHpRh
import Derived.Test.YtcelbkmnbjcjhaaGreatDoorHpUh
import Derived.Test.YtcelbkmnbjcjhaaGreatDoorMarkPh
namespace Go.Proofs.YtcelbkmnbjcjhaaGreatDoor
open Go.RowKit

def hourB (a b : HapD) : Prop := b.save = a.save ∧ b.letter = a.letter ∧ (b.at_ = a.at_ ∨ b.at_ = a.at_ - 3600)
theorem hapOf_hour (x : RuleD) (wall off sv : Int) : hourB (hapOf x wall off sv) (hapOf x wall (off + 3600) sv) := by
 cases hs : (x.of.toList == [115])
 ·
  cases hv : (x.of.toList == [119])
  ·
   rw [hap_u hs hv, hap_u hs hv]; exact ⟨rfl, rfl, .inl rfl⟩
  ·
   rw [hap_w hs hv, hap_w hs hv]; exact ⟨rfl, rfl, .inr (by show wall - (off + 3600) - sv = wall - off - sv - 3600; omega)⟩
 ·
  rw [hap_s hs, hap_s hs]; exact ⟨rfl, rfl, .inr (by show wall - (off + 3600) = wall - off - 3600; omega)⟩
theorem foldH_hour (l : List RuleD) (off : Int) : ∀ (P : List WallD) (s t : List HapD × Int), s.2 = t.2 → s.1.length = t.1.length → (∀ (i : Nat) a b, s.1[i]? = some a → t.1[i]? = some b → hourB a b) →
  (P.foldl (stepH l off) s).1.length = (P.foldl (stepH l (off + 3600)) t).1.length ∧ ∀ (i : Nat) a b, (P.foldl (stepH l off) s).1[i]? = some a → (P.foldl (stepH l (off + 3600)) t).1[i]? = some b → hourB a b := by
 intro P
 induction P with
 | nil => intro s t _ h2 h3; exact ⟨h2, h3⟩
 | cons m P ih =>
  intro s t h1 h2 h3
  rw [List.foldl_cons, List.foldl_cons]
  cases hx : l[m.place]? with
  | none =>
   have e1 : stepH l off s m = s := by unfold stepH; rw [hx]
   have e2 : stepH l (off + 3600) t m = t := by unfold stepH; rw [hx]
   rw [e1, e2]
   exact ih s t h1 h2 h3
  | some x =>
   have e1 : stepH l off s m = (s.1 ++ [hapOf x m.wall off s.2], x.save) := by unfold stepH; rw [hx]
   have e2 : stepH l (off + 3600) t m = (t.1 ++ [hapOf x m.wall (off + 3600) t.2], x.save) := by unfold stepH; rw [hx]
   rw [e1, e2]
   refine ih _ _ rfl (by simp [h2]) fun i a b ha hb => ?_
   simp only at ha hb
   by_cases hi : i < s.1.length
   ·
    rw [List.getElem?_append_left hi] at ha
    rw [List.getElem?_append_left (by omega)] at hb
    exact h3 i a b ha hb
   ·
    by_cases hi2 : i = s.1.length
    ·
     subst hi2
     rw [List.getElem?_append_right (by omega)] at ha
     rw [List.getElem?_append_right (by omega)] at hb
     simp at ha
     simp [h2] at hb
     subst ha hb
     rw [← h1]
     exact hapOf_hour _ _ _ _
    ·
     rw [List.getElem?_eq_none (by simp; omega)] at ha
     cases ha
theorem hapsT_hour (r : RelD) (nm : ByteArray) (off : Int) : (hapsT r nm off).1.length = (hapsT r nm (off + 3600)).1.length ∧ ∀ (i : Nat) a b, (hapsT r nm off).1[i]? = some a → (hapsT r nm (off + 3600)).1[i]? = some b → hourB a b := by
 unfold hapsT
 split
 ·
  exact foldH_hour r.rules off _ ([], 0) ([], 0) rfl rfl (fun i a b h => by simp at h)
 ·
  exact ⟨rfl, fun i a b h => by simp at h⟩
end Go.Proofs.YtcelbkmnbjcjhaaGreatDoor
namespace Go.Proofs.YtcelbkmnbjcjhaaGreatDoor
open Go.RowKit

def HapsG (r : RelD) (nm : ByteArray) (off : Int) (H : List HapD) : Prop := (askB r nm off = true ∧ ∃ b, HapsA (ofName r.rules nm) off H b) ∨ (askB r nm off = false ∧ H = [])
theorem ruleCs_len {P : List RuleD} : ∀ r ∈ P.map RuleD.cs, r.length = 9 := fun r hr => by
 obtain ⟨x, _, rfl⟩ := List.mem_map.mp hr
 rfl
theorem ruleB_on {x : RuleD} (h : ruleB x = true) : onB x.on = true ∧ x.name.size ≤ 20 := by
 unfold ruleB at h
 simp only [Bool.and_eq_true] at h
 obtain ⟨hn, _, _, _, ho, _⟩ := h
 exact ⟨ho, (nameB_t hn).2.1⟩
set_option maxRecDepth 20000 in
set_option maxHeartbeats 4000000 in
theorem impl_HapsOf (r : RelD) (v : Value) (nm : ByteArray) (off : Int) (w : World) (hE : EnvZ w) (hv : RelAt w v r) (ok : r.ok) (sm : r.small) (hon : ∀ x ∈ r.rules, x.on.size ≤ 1048576) (hm : nm.size ≤ maxLen) :
  Calls Tryz.prog 6 #[v, .string nm, .int .i64 off] w fun e W' => ∃ v' H, e = .returned v' ∧ OwnsH W' w.heap.size v' H ∧ HapsG r nm off H ∧ Below w.heap.size w W' := by
 unfold maxLen at hm
 obtain ⟨a, b, c, ca, cb, cc, rfl, hA, hAb, hAc⟩ := hv.form
 have hv : RelAt w (.agg #[.slice a r.rules.length ca, .slice b r.zones.length cb, .slice c r.links.length cc]) r := ⟨⟨a, b, c, ca, cb, cc, rfl, hA, hAb, hAc⟩⟩
 clear hAb hAc
 have hB0 := (Below.refl w.heap.size w).alloc (Nat.le_refl _) (.cells #[.slice a r.rules.length ca, .slice b r.zones.length cb, .slice c r.links.length cc] 27)
 by_cases h1 : nm.size ≤ 8000
 ·
  have g1 : ¬ (8000 : Int) < (nm.size : Int) := by omega
  by_cases o1 : off < -86400
  ·
   have HR : Hid (HapsG r nm off []) := .inr ⟨ask_no3 (isB_f (by omega)), rfl⟩
   go_enter Tryz.func6, Tryz.ntmps6
   go_wp2
   go_ret
   first
    | exact ⟨_, [], rfl, World.ownsRow_nil _ _ _ _, HR.out, hB0⟩
    | exact ⟨_, rfl, [], World.ownsRow_nil _ _ _ _, HR.out, hB0⟩
  by_cases o2 : 86400 < off
  ·
   have HR : Hid (HapsG r nm off []) := .inr ⟨ask_no3 (isB_f (by omega)), rfl⟩
   go_enter Tryz.func6, Tryz.ntmps6
   go_wp2
   go_ret
   first
    | exact ⟨_, [], rfl, World.ownsRow_nil _ _ _ _, HR.out, hB0⟩
    | exact ⟨_, rfl, [], World.ownsRow_nil _ _ _ _, HR.out, hB0⟩
  have h3 : isB off (-86400) 86400 = true := isB_t (by omega) (by omega)
  have hR := fun w hE (h : RelAt w (.agg #[.slice a r.rules.length ca, .slice b r.zones.length cb, .slice c r.links.length cc]) r) => impl_ReleaseRight r _ w hE h ok sm hon
  have x0 : (w.alloc (.cells #[.slice a r.rules.length ca, .slice b r.zones.length cb, .slice c r.links.length cc] 27)).cell? ⟨w.heap.size, 0, none⟩ = some (.slice a r.rules.length ca) := by simp [go_sem]
  have x1 : (w.alloc (.cells #[.slice a r.rules.length ca, .slice b r.zones.length cb, .slice c r.links.length cc] 27)).cell? ⟨w.heap.size, 1, none⟩ = some (.slice b r.zones.length cb) := by simp [go_sem]
  have x2 : (w.alloc (.cells #[.slice a r.rules.length ca, .slice b r.zones.length cb, .slice c r.links.length cc] 27)).cell? ⟨w.heap.size, 2, none⟩ = some (.slice c r.links.length cc) := by simp [go_sem]
  cases h2 : relB r
  ·
   have HR : Hid (HapsG r nm off []) := .inr ⟨ask_no2 h2, rfl⟩
   rw [h2] at hR
   clear h2 h3
   go_enter Tryz.func6, Tryz.ntmps6
   go_wp2_with fail
   refine (hR _ (hE.of_below hB0) (hv.below hB0)).mono ?_
   rintro e w1 ⟨rfl, hb1⟩
   have hB1 := hB0.trans (hb1.mono (by simp))
   go_wp2
   go_ret
   first
    | exact ⟨_, [], rfl, World.ownsRow_nil _ _ _ _, HR.out, hB1⟩
    | exact ⟨_, rfl, [], World.ownsRow_nil _ _ _ _, HR.out, hB1⟩
  ·
   have hl := rel_rules h2
   have HA : Hid (askB r nm off = true) := ask_yes h1 h2 h3
   rw [h2] at hR
   have HL : Hid (∀ x ∈ r.rules, ruleB x = true) := hl.2
   have hl1 := hl.1
   have hN := fun w (h : SeqAt w a 9 (r.rules.map RuleD.cs)) => impl_rulesByName r.rules a ca w h hl1 (fun x hx => by have := (ruleB_on (HL.out x hx)).2; unfold maxLen; omega)
   have hmem : ∀ x ∈ ofName r.rules nm, ruleB x = true := fun x hx => HL.out x (List.mem_filter.mp hx).1
   have hH := fun a ca w (h : SeqAt w a 9 ((ofName r.rules nm).map RuleD.cs)) (hE : EnvZ w) => impl_hapsAt (ofName r.rules nm) a ca off w h hE.1 hE.2 (fun x hx => rule_r (hmem x hx)) (Nat.le_trans (List.length_filter_le _ _) hl1) (fun x hx => on_short (ruleB_on (hmem x hx)).1) (by omega) (by omega)
   clear h2 h3 hl hmem
   go_enter Tryz.func6, Tryz.ntmps6
   go_wp2_with fail
   refine (hR _ (hE.of_below hB0) (hv.below hB0)).mono ?_
   rintro e w1 ⟨rfl, hb1⟩
   have hB1 := hB0.trans (hb1.mono (by simp))
   have y0 := keepC hb1 x0
   clear hR
   go_wp2_with fail
   refine (hN _ (hA.below hB1)).mono ?_
   rintro e w2 ⟨rfl, hM, hb2⟩
   have hB2 := hB1.trans (hb2.mono hB1.size)
   obtain ⟨vl, hlk, hOl, _⟩ := mapR_at (P := Tryz.prog) (T := 67) hM Tryz.underlying67 Tryz.underlying9 zeroRules nm (by unfold maxLen; omega)
   obtain ⟨al, cl, rfl, hSl, _⟩ := seq_of_owns (rows := (ofName r.rules nm).map RuleD.cs) (by rw [List.length_map]; exact hOl) ruleCs_len
   have hlk := hlk w2 rfl
   rw [List.length_map] at hlk
   have hH2 := hH al cl w2 hSl (hE.of_below hB2)
   clear hOl hSl hM hN hH hb1 hb2
   go_wp2_with fail
   refine hH2.mono ?_
   rintro e w3 ⟨v3, H, bb, rfl, hO, hHA, hb3⟩
   have hB3 := hB2.trans (hb3.mono hB2.size)
   have HR : Hid (HapsG r nm off H) := .inl ⟨HA.out, bb, hHA⟩
   have HO : Hid (OwnsH w3 w.heap.size v3 H) := owns_mono hO hB2.size
   obtain ⟨a7, m7, d7, rfl⟩ := row_shape3 hO
   clear hO hHA hb3 hlk hH2
   go_wp2
   go_ret
   first
    | exact ⟨_, H, rfl, HO.out, HR.out, hB3⟩
    | exact ⟨_, rfl, H, HO.out, HR.out, hB3⟩
 ·
  have HR : Hid (HapsG r nm off []) := .inr ⟨ask_no1 h1, rfl⟩
  have g1 : (8000 : Int) < (nm.size : Int) := by omega
  clear h1
  go_enter Tryz.func6, Tryz.ntmps6
  go_wp2
  go_ret
  first
   | exact ⟨_, [], rfl, World.ownsRow_nil _ _ _ _, HR.out, hB0⟩
   | exact ⟨_, rfl, [], World.ownsRow_nil _ _ _ _, HR.out, hB0⟩
end Go.Proofs.YtcelbkmnbjcjhaaGreatDoor
namespace Go.Proofs.YtcelbkmnbjcjhaaGreatDoor
open Go.RowKit

end Go.Proofs.YtcelbkmnbjcjhaaGreatDoor
namespace Go.Proofs.YtcelbkmnbjcjhaaGreatDoor
open Go.RowKit

def hapsD (r : RelD) (nm : ByteArray) (off : Int) : List HapD := if askB r nm off = true then (hapsT r nm off).1 else []
theorem hapsF_is {r : RelD} {nm : ByteArray} {off : Int} {H : List HapD} (h : HapsF r nm off H) : H = hapsD r nm off := by
 unfold hapsD
 rcases h with ⟨a, b, hb⟩ | ⟨a, rfl⟩
 ·
  rw [if_pos a]; exact (hapsR_is hb).1
 ·
  rw [if_neg (by rw [a]; simp)]
theorem hapsG_is {r : RelD} {nm : ByteArray} {off : Int} {H : List HapD} (h : HapsG r nm off H) : H = hapsD r nm off := by
 unfold hapsD
 rcases h with ⟨a, b, hb⟩ | ⟨a, rfl⟩
 ·
  rw [if_pos a]; exact (hapsA_is hb).1
 ·
  rw [if_neg (by rw [a]; simp)]
theorem hapsD_len (r : RelD) (nm : ByteArray) (off : Int) : (hapsD r nm off).length ≤ 2000 := by
 unfold hapsD
 split
 ·
  exact hapsT_len
 ·
  simp
theorem hapsD_low {r : RelD} {nm : ByteArray} {off : Int} : ∀ h ∈ hapsD r nm off, -200000000000 ≤ h.at_ ∧ h.at_ ≤ 253402300799 := by
 intro h hh
 unfold hapsD at hh
 split at hh
 case isFalse => simp at hh
 rename_i ha
 unfold askB at ha
 simp only [Bool.and_eq_true] at ha
 obtain ⟨_, hr, ho⟩ := ha
 obtain ⟨o1, o2⟩ := isB_of_t ho
 have hr2 := (rel_rules hr).2
 have hR : ∀ x ∈ r.rules, RuleR x := fun x hx => rule_r (hr2 x hx)
 refine ⟨?_, (hapsT_b hr2 o1 o2 h hh).at_⟩
 unfold hapsT at hh
 split at hh
 ·
  rcases foldH_mem hR _ _ (by simp) h hh with h0 | ⟨m, hm, x, sv, hx, s1, s2, rfl⟩
  ·
   simp at h0
  ·
   have hw := (wallsT_mem hR (srt_mem (srtF_srt _) hm)).2.2.1
   cases hs : (x.of.toList == [115])
   ·
    cases hv : (x.of.toList == [119])
    ·
     rw [hap_u hs hv]; show -200000000000 ≤ m.wall; omega
    ·
     rw [hap_w hs hv]; show -200000000000 ≤ m.wall - off - sv; omega
   ·
    rw [hap_s hs]; show -200000000000 ≤ m.wall - off; omega
 ·
  simp at hh
theorem hapsD_hour {r : RelD} {nm : ByteArray} {off : Int} (h1 : -86400 ≤ off) (h2 : off ≤ 82800) : (hapsD r nm off).length = (hapsD r nm (off + 3600)).length ∧ ∀ (i : Nat) a b, (hapsD r nm off)[i]? = some a → (hapsD r nm (off + 3600))[i]? = some b → hourB a b := by
 have e : askB r nm (off + 3600) = askB r nm off := by
  unfold askB
  rw [show isB (off + 3600) (-86400) 86400 = true by unfold isB; simp; omega, show isB off (-86400) 86400 = true by unfold isB; simp; omega]
 unfold hapsD
 rw [e]
 split
 ·
  exact hapsT_hour r nm off
 ·
  exact ⟨rfl, fun i a b h => by simp at h⟩
theorem impl_HapsD (r : RelD) (v : Value) (nm : ByteArray) (off : Int) (w : World) (hE : EnvZ w) (hv : RelAt w v r) (ok : r.ok) (sm : r.small) (hon : ∀ x ∈ r.rules, x.on.size ≤ 1048576) (hm : nm.size ≤ maxLen) :
  Calls Tryz.prog 6 #[v, .string nm, .int .i64 off] w fun e W' => ∃ v', e = .returned v' ∧ OwnsH W' w.heap.size v' (hapsD r nm off) ∧ Below w.heap.size w W' := by
 refine (impl_HapsOf r v nm off w hE hv ok sm hon hm).mono ?_
 rintro e w' ⟨v', G, rfl, hO, hG, hb⟩
 obtain rfl := hapsG_is hG
 exact ⟨v', rfl, hO, hb⟩
theorem spec_HapsD (r : RelD) (v : Value) (nm : ByteArray) (off : Int) (w : World) (hv : RelAt w v r) (ok : r.ok) (sm : r.small) (hon : ∀ x ∈ r.rules, x.on.size ≤ 1048576) (hm : nm.size ≤ maxLen) :
  Calls Tryz.prog 7 #[v, .string nm, .int .i64 off] w fun e W' => ∃ v', e = .returned v' ∧ OwnsH W' w.heap.size v' (hapsD r nm off) ∧ Below w.heap.size w W' := by
 refine (spec_HapsOf r v nm off w hv ok sm hon hm).mono ?_
 rintro e w' ⟨v', G, rfl, hO, hG, hb⟩
 obtain rfl := hapsF_is hG
 exact ⟨v', rfl, hO, hb⟩
theorem hapCsK {P : List HapD} : ∀ r ∈ P.map HapD.cs, r.length = 3 := fun r hr => by
 obtain ⟨x, _, rfl⟩ := List.mem_map.mp hr
 rfl
theorem OwnsH.sl {w : World} {B : Nat} {v : Value} {H : List HapD} (h : OwnsH w B v H) : ∃ a c, v = .slice a H.length c := by
 rcases h.2 with ⟨rfl, h0⟩ | ⟨g, c, cur, rfl, _⟩
 ·
  exact ⟨none, 0, by rw [h0]⟩
 ·
  exact ⟨_, _, rfl⟩
theorem OwnsH.get {w : World} {B n c : Nat} {a : Option Addr} {H : List HapD} (h : OwnsH w B (.slice a n c) H) {k : Nat} {x : HapD} (hk : H[k]? = some x) : ∃ g, a = some ⟨g, 0, none⟩ ∧ w.cell? ⟨g, k * 3, none⟩ = some (.int .i64 x.at_) ∧ w.cell? ⟨g, k * 3 + 1, none⟩ = some (.int .i64 x.save) ∧ w.cell? ⟨g, k * 3 + 2, none⟩ = some (.string x.letter) := by
 have h' : w.ownsRow B 36 3 (.slice a n c) H.length (H.map HapD.cs).flatten := h
 have hl : k < H.length := (List.getElem?_eq_some_iff.1 hk).1
 rcases h'.2 with ⟨_, h0⟩ | ⟨g, c2, cur, hv, hb, hg, _⟩
 ·
  omega
 ·
  injection hv with e1 e2 e3
  subst e1 e2 e3
  have hm : (H.map HapD.cs)[k]? = some x.cs := by rw [List.getElem?_map, hk]; rfl
  refine ⟨g, rfl, ?_, ?_, ?_⟩
  ·
   rw [h'.cellAt (k * 3) (by omega)]
   exact flat_at (q := 3) hapCsK (j := 0) hm rfl
  ·
   rw [h'.cellAt (k * 3 + 1) (by omega)]
   exact flat_at (q := 3) hapCsK (j := 1) hm rfl
  ·
   rw [h'.cellAt (k * 3 + 2) (by omega)]
   exact flat_at (q := 3) hapCsK (j := 2) hm rfl
set_option maxRecDepth 100000 in
theorem fields_hapF : ∃ a b c d e f g h i, (Tryz.prog.fieldsOf 36).toList = [⟨ "At", 2, 0, false, a, b, c⟩, ⟨ "Save", 2, 1, false, d, e, f⟩, ⟨ "Letter", 9, 2, false, g, h, i⟩] := ⟨_, _, _, _, _, _, _, _, _, rfl⟩
theorem neq_hapF (t s : Int) (b : ByteArray) (w : World) : (binOp .neq 36 (.agg #[.int .i64 t, .int .i64 s, .string b]) (.agg #[.int .i64 t, .int .i64 s, .string b])).run Tryz.prog w = .ok (.bool false) w := by
 have ht : Tryz.prog.underlying 36 = some (.struct (Tryz.prog.fieldsOf 36)) := by kernel_rfl
 have hp : Tryz.prog.stoodInHeld 36 = false := by kernel_rfl
 obtain ⟨a, b', c, d, e, f, g, h, i, hf⟩ := fields_hapF
 rw [run_neq_struct, run_equalIn_agg _ 9999 _ _ _ ht hp, hf]
 simp [Op.eqFields, go_sem]
theorem guard_hapF (op : BinOp) (x y : Operand) (v1 v2 : Array Value) (w : World) : (eqGuard op 36 x y (.agg v1) (.agg v2)).run Tryz.prog w = .ok () w := run_eqGuard_agg w _ _ _ _ _ _ (by kernel_rfl)
end Go.Proofs.YtcelbkmnbjcjhaaGreatDoor
