/- Packed. -/
import Derived.Test.YtgiieknbckhofaaGreatDoorSCs
import Derived.Test.YtgiieknbckhofaaGreatDoorSBs
set_option maxRecDepth 100000
set_option maxHeartbeats 20000000
set_option linter.unusedSimpArgs false
namespace Go.Proofs.YtgiieknbckhofaaGreatDoor
section
open Go.RowKit Go.ChangeMaps Go.MapKept
theorem jao {w w' : World} (hb : Bw w w') : w.grownBy w' none := ⟨hb.os, hb.tape, hb.output, hb.size, fun k hk _ => hb.block k hk⟩
structure Jk (f : Int -> Option EventD) (L : List EventD) : Prop where
 id : ∀ i x, f i = some x -> x.id = i
 mem : ∀ e, e ∈ L ↔ f e.id = some e
theorem jqb {D : DataW EventD} {f : Int -> Option EventD} (h : MapV D f) {x : Int} {c : EventD} (bI : ∀ z, D.atKey (.int .i64 x) z = .held c) : f x = some c := by
 cases hf : f x with
 | none =>
  have := (h x c).2 hf
  rw [Maps.has_true_of_atKey bI] at this
  cases this
 | some e =>
  have := ((h x e).1 hf).2 (.held c)
  rw [bI] at this
  injection this with this
  rw [this]
theorem jga {D : DataW EventD} {f : Int -> Option EventD} (h : MapV D f) {x : Int} {e : EventD} (hf : f x = some e) : Maps.has D (.int .i64 x) = true := ((h x e).1 hf).1
theorem jfs {left : Lit -> Bool} {x y : Int} (h : (left (.int .i64 y) && !Lit.sameKey (.int .i64 y) (.int .i64 x)) = false) : left (.int .i64 y) = false \/ y = x := by
 cases hl : left (.int .i64 y)
 ·exact .inl rfl
 ·rw [hl] at h
  by_cases e : y = x
  ·exact .inr e
  ·rw [Maps.sameKey_ne (fun h => e (by simp only [Lit.int.injEq, true_and] at h; exact h))] at h
   cases h
theorem jg6 (f : Int -> Option EventD) (L : List EventD) (b n : Nat) (r : RelD) (v : Value) (w : World) (bT : Zz w) (hM : Zj w b n f) (hL : Jk f L) (hv : Zd w v r) (ok : Jq r) (hr : relB r = true) :
  Cl 98 #[.map (some b), v] w fun e w' => e = .returned (.bool (L.all fun x => inR r x.zone)) /\ Bw w w' := by
 obtain ⟨a, b2, c, ca, cb, cc, rfl, _, _, _⟩ := hv.form
 have ag := qal w (.cells #[.slice a r.rules.length ca, .slice b2 r.zones.length cb, .slice c r.links.length cc] 38)
 have dL := hM.alloc (.cells #[.slice a r.rules.length ca, .slice b2 r.zones.length cb, .slice c r.links.length cc] 38)
 have nr := hM.lt
 obtain ⟨D, ai, hD⟩ := dL.own
 have hZ := fun nm w hE h => jqw r (.agg #[.slice a r.rules.length ca, .slice b2 r.zones.length cb, .slice c r.links.length cc]) nm w hE h ok hr
 obtain ⟨s0, s1, s2⟩ : (fun z : World => z.cell? (ad w.heap.size 0) = some (.slice a r.rules.length ca) /\ z.cell? (ad w.heap.size 1) = some (.slice b2 r.zones.length cb) /\ z.cell? (ad w.heap.size 2) = some (.slice c r.links.length cc)) (w.alloc (.cells #[.slice a r.rules.length ca, .slice b2 r.zones.length cb, .slice c r.links.length cc] 38)) := by simp [go_sem]
 have cC := hv.below ag
 have eM := bT.of_below ag
 have HT := hid hL
 have HD := hid hD
 clear dL hM hL hv bT hD
 go_enter Tryz.func98, Tryz.ntmps98
 have dN : (w.alloc (.cells #[.slice a r.rules.length ca, .slice b2 r.zones.length cb, .slice c r.links.length cc] 38)).heap.size = w.heap.size + 1 := by simp
 go_wp2_with (first
  | (at_range; refine wpList_range_own _ rfl _ 70 rfl 2 79 (Maps.int_keyed keyT) mapT jb7 b n D rfl ai ?_; intro w0 iD jH aG)
  | go_in)
 go_frame
 generalize (w.alloc (.cells #[.slice a r.rules.length ca, .slice b2 r.zones.length cb, .slice c r.links.length cc] 38)) = wb at *
 go_loopw [6] (fun _ wr => ∃ (left : Lit -> Bool) (gg : Nat), wr.ranges Tryz.prog 2 jb7 b wb.heap.size n D left gg /\ Hid (∀ x e, f x = some e -> left (.int .i64 x) = false -> inR r e.zone = true) /\ Bw wb wr) (fun _ wr => wr.rangeLeft b wb.heap.size)
 case atStart => exact ⟨_, _, iD, fun x e hf hl => by (rw [jga HD.out hf] at hl; cases hl), (brf _ _).grown jH (by omega) (fun k hk => by cases hk)⟩
 case round =>
  obtain ⟨wa, dY⟩ := qea wr
  subst dY
  obtain ⟨left, gg, kg, HK, aH⟩ := hrel
  clear iD jH aG
  have bQ := ag.trans (aH.mono (by omega))
  have hsz := aH.size
  have yr := hid aH
  have HS := hid dN
  clear dN
  go_wp2_with (first
   | (at_next; refine wpList_next_ranges _ rfl _ rfl 2 (Maps.int_keyed keyT) jb7 (Value.int .i64) (fun c : EventD => Value.agg #[.int .i64 c.id, .string c.name, .string c.zone, .int .i64 c.wall, .int .i64 c.gap, .int .i64 c.fold]) (fun key kl bL => by (obtain ⟨x, rfl, _⟩ := Maps.keyOf_int_inv keyT bL; exact ⟨x, rfl⟩)) (fun v y hv => by (obtain ⟨c, rfl, _⟩ := jcd hv; exact ⟨c, rfl⟩)) b wb.heap.size n D left gg rfl kg ?_ ?_)
   | go_in)
  ·intro _ hl0
   have HF : Hid (L.all (fun x => inR r x.zone) = true) := List.all_eq_true.mpr fun e he => HK.out e.id e ((HT.out.mem e).mp he) (hl0 _)
   go_wp2
   go_ret
   exact ⟨ret_bool HF.out.symm, bQ⟩
  ·intro x c kl y ys w1 jp bL gK dF bI hrg1 hlt cV cH fh
   have HF : Hid (f x = some c /\ c.id = x /\ kl = .int .i64 x) := by
    obtain ⟨x', ex, rfl, _⟩ := Maps.keyOf_int_inv keyT bL
    cases ex
    obtain ⟨c', ec, ez⟩ := jcd dF
    simp only [Prod.mk.injEq] at ez
    obtain ⟨rfl, _⟩ := ez
    have : c' = c := by cases c; cases c'; simp only [EventD.v, Value.agg.injEq] at ec; simp_all
    subst this
    have h1 := jqb HD.out bI
    exact ⟨h1, HT.out.id _ _ h1, rfl⟩
   have aj : Bw wb w1 := yr.out.grown cV hsz (fun k hk => by (cases hk; exact nlr _))
   have an := aj.alloc aj.size (.cells #[iv c.id, .string c.name, .string c.zone, iv c.wall, iv c.gap, iv c.fold] 79)
   have t0 := jaa an s0
   have t1 := jaa an s1
   have t2 := jaa an s2
   have yT := hZ c.zone _ (eM.of_below an) (cC.below an)
   have hrg2 := hrg1.alloc (.cells #[iv c.id, .string c.name, .string c.zone, iv c.wall, iv c.gap, iv c.fold] 79)
   clear dF bI bL cV hZ
   cases hin : inR r c.zone
   ·have HA : Hid (L.all (fun x => inR r x.zone) = false) := List.all_eq_false.mpr ⟨c, (HT.out.mem c).mpr (by rw [HF.out.2.1]; exact HF.out.1), by rw [hin]; simp⟩
    rw [hin] at yT
    clear hin
    go_wp2_with fail
    refine yT.mono ?_
    rintro e w2 ⟨rfl, ac⟩
    have ay := ag.trans ((qtr an ac).mono (by rw [HS.out]; omega))
    go_wp2
    go_ret
    exact ⟨ret_bool HA.out.symm, ay⟩
   ·have HN : Hid (∀ z e, f z = some e -> (left (.int .i64 z) && !Lit.sameKey (.int .i64 z) kl) = false -> inR r e.zone = true) := by
     intro z e hf hl
     rw [HF.out.2.2] at hl
     rcases jfs hl with h | rfl
     ·exact HK.out z e hf h
     ·rw [HF.out.1] at hf; cases hf; exact hin
    rw [hin] at yT
    clear hin
    go_wp2_with fail
    refine yT.mono ?_
    rintro e w2 ⟨rfl, ac⟩
    have ay := qtr an ac
    have iE := hrg2.kept (jao ac) (by simp) (by simp)
    have Iy := hid ay
    go_wp2
    go_roundw
    case rel => exact ⟨_, jp, iE, HN, Iy.out⟩
    case measure => rw [iE.left_eq, kg.left_eq]; exact hlt
end
section
open Go.RowKit Go.ChangeMaps Go.MapKept
theorem jf9 (l : List VersionD) : Jk (jcr l) (ja5 l) := by
 refine ⟨fun i x h => ?_, fun e => liveL_mem⟩
 unfold jcr at h
 cases hk : jcj l i with
 | none => rw [hk] at h; cases h
 | some k =>
  obtain ⟨_, ⟨v, hv, jf⟩, _⟩ := jdf hk
  rw [hk] at h
  simp only [hv] at h
  split at h
  ·cases h
  ·cases h; exact jf
theorem jzn {w : World} {b n : Nat} {D : DataW EventD} (h : w.ownsMap Tryz.prog 2 jb7 b n D) : ∃ es, D = .map es /\ es.Pairwise (fun p q => p.1 ≠ q.1) /\ ∀ p ∈ es, (∃ x, p.1 = .int .i64 x) /\ Maps.has D p.1 = true := by
 obtain ⟨Kk, hD, hp, hk⟩ := h.entries (Maps.int_keyed keyT)
 refine ⟨Kk, hD, hp, fun p pE => ⟨?_, ?_⟩⟩
 ·obtain ⟨es, br, _, F, _, sP⟩ := h
  rw [hD] at sP
  injection sP with sP
  rw [sP] at pE
  obtain ⟨x, hx, rfl⟩ := List.mem_map.1 (mem_sorted.1 pE)
  obtain ⟨y, hy⟩ := F.reads x hx
  rw [WideElems.rg_of hy]
  obtain ⟨z, _, h2, _⟩ := Maps.keyOf_int_inv keyT (WideElems.rd_key hy)
  exact ⟨z, h2⟩
 ·rw [hD, Maps.has_eq]
  exact List.any_eq_true.2 ⟨p, pE, WideAt.sameKey_self (hk p pE)⟩
theorem jfm {w : World} {b n : Nat} {f : Int -> Option EventD} {L : List EventD} {D : DataW EventD} (h : w.ownsMap Tryz.prog 2 jb7 b n D) (hV : MapV D f) (hT : Jk f L) (hL : L.Pairwise fun x y => x.id < y.id) : Maps.size D = L.length := by
 obtain ⟨es, hD, hp, hk⟩ := jzn h
 have d1 : (es.map fun p => p.1).Nodup := List.pairwise_map.mpr hp
 have d2 : (L.map fun e => Lit.int .i64 e.id).Nodup := List.pairwise_map.mpr (hL.imp fun {x y} fI h => by simp only [Lit.int.injEq, true_and] at h; omega)
 have wK : (es.map fun p => p.1).Perm (L.map fun e => Lit.int .i64 e.id) := (List.perm_ext_iff_of_nodup d1 d2).mpr fun kl => by
  constructor
  ·intro hm
   obtain ⟨p, pE, rfl⟩ := List.mem_map.mp hm
   obtain ⟨⟨x, hx⟩, hh⟩ := hk p pE
   rw [hx] at hh ⊢
   cases hf : f x with
   | none => rw [(hV x ⟨0, ⟨#[]⟩, ⟨#[]⟩, 0, 0, 0⟩).2 hf] at hh; cases hh
   | some e =>
    have hi := hT.id x e hf
    exact List.mem_map.mpr ⟨e, (hT.mem e).mpr (by rw [hi]; exact hf), by rw [hi]⟩
  ·intro hm
   obtain ⟨e, he, rfl⟩ := List.mem_map.mp hm
   have hh := ((hV e.id e).1 ((hT.mem e).mp he)).1
   rw [hD, Maps.has_eq] at hh
   obtain ⟨p, pE, Dl⟩ := List.any_eq_true.1 hh
   exact List.mem_map.mpr ⟨p, pE, WideAt.sameKey_eq Dl⟩
 have := wK.length_eq
 rw [llm, llm] at this
 rw [hD, Maps.size_eq, this]
end
section
open Go.RowKit Go.ChangeMaps Go.MapKept
def jqc (s : StoreD) (L : List EventD) : Bool := decide (L.length <= 30) && ((L.all fun x => inR s.now x.zone) && (decide (s.cur = 0) || (L.all fun x => inR s.was x.zone)))
theorem jtt (s : StoreD) (L : List EventD) : jqc s L = (decide (L.length <= 30) && L.all fun x => je7 s x.zone) := by
 unfold jqc
 congr 1
 unfold je7
 induction L with
 | nil => simp
 | cons x L ih =>
  simp only [List.all_cons]
  rw [<- ih]
  cases inR s.now x.zone <;> cases decide (s.cur = 0) <;> cases inR s.was x.zone <;> cases (L.all fun x => inR s.now x.zone) <;> cases (L.all fun x => inR s.was x.zone) <;> rfl
theorem jki (s : StoreD) (v : Value) (F : Int -> Option EventD) (L : List EventD) (mb mn : Nat) (w : World) (hE : Zz w) (hv : Zx w v s) (ok : Zt s) (hM : Zj w mb mn F) (hT : Jk F L) (hL : L.Pairwise fun x y => x.id < y.id) (mu : mn <= 1048576) (rt : relB s.now = true) (dE : relB s.was = true) :
  Cl 63 #[v, .map (some mb)] w fun e w' => e = .returned (.bool (jqc s L)) /\ Bw w w' := by
 obtain ⟨a, b, c, d, e, f, va, ia, ca, cb, cc, cd, ce, cf, cv, ci, rfl, hN, hW, _, _, _, _⟩ := hv.form
 have ag := qal w (.cells #[iv s.tx, .slice a s.now.rules.length ca, .slice b s.now.zones.length cb, .slice c s.now.links.length cc, .slice d s.was.rules.length cd, .slice e s.was.zones.length ce, .slice f s.was.links.length cf, iv s.cur, .slice va s.vs.length cv, .slice ia s.ix.length ci] 42)
 have hF := fun w hE hM h => jg6 F L mb mn s.now (.agg #[.slice a s.now.rules.length ca, .slice b s.now.zones.length cb, .slice c s.now.links.length cc]) w hE hM hT h ok.now rt
 have hG := fun w hE hM h => jg6 F L mb mn s.was (.agg #[.slice d s.was.rules.length cd, .slice e s.was.zones.length ce, .slice f s.was.links.length cf]) w hE hM hT h ok.was dE
 have gq := hN.below ag
 have jA := hW.below ag
 have eM := hE.of_below ag
 have dL := hM.below ag
 have au : ∀ ty, (Builtin.len_ #[70] ty #[.map (some mb)]).run Tryz.prog (w.alloc (.cells #[iv s.tx, .slice a s.now.rules.length ca, .slice b s.now.zones.length cb, .slice c s.now.links.length cc, .slice d s.was.rules.length cd, .slice e s.was.zones.length ce, .slice f s.was.links.length cf, iv s.cur, .slice va s.vs.length cv, .slice ia s.ix.length ci] 42)) = .ok (iv L.length) (w.alloc (.cells #[iv s.tx, .slice a s.now.rules.length ca, .slice b s.now.zones.length cb, .slice c s.now.links.length cc, .slice d s.was.rules.length cd, .slice e s.was.zones.length ce, .slice f s.was.links.length cf, iv s.cur, .slice va s.vs.length cv, .slice ia s.ix.length ci] 42)) := fun ty => by
  obtain ⟨D, h1, h2⟩ := dL.own
  rw [<- jfm h1 h2 hT hL]
  exact h1.len mapT ty
 have iC : L.length <= 1048576 := by
  obtain ⟨D, h1, h2⟩ := dL.own
  have := h1.size_le
  rw [jfm h1 h2 hT hL] at this
  omega
 unfold jqc
 clear hv ok hN hW hE rt dE hM hT hL mu
 generalize (L.all fun x => inR s.now x.zone) = pb at *
 generalize (L.all fun x => inR s.was x.zone) = qb at *
 generalize L.length = ln at *
 obtain ⟨tx, now, was, cur, vs, ix⟩ := s
 dsimp only at *
 by_cases qd : ln <= 30
 ·have KH : (ln : Int) <= 30 := by omega
  rw [dte qd]
  cases pb
  ·go_enter Tryz.func63, Tryz.ntmps63
   go_wp2_with fail
   refine (hF _ eM dL gq).mono ?_
   rintro e' w1 ⟨rfl, hb1⟩
   go_wp2
   go_ret
   exact ⟨rfl, ag.trans (hb1.mono (by simp))⟩
  by_cases jF : cur = 0
  ·subst jF
   go_enter Tryz.func63, Tryz.ntmps63
   go_wp2_with fail
   refine (hF _ eM dL gq).mono ?_
   rintro e' w1 ⟨rfl, hb1⟩
   have x7 : w1.cell? (ad w.heap.size 7) = some (iv 0) := jaa hb1 (by simp [go_sem])
   go_wp2
   go_ret
   exact ⟨rfl, ag.trans (hb1.mono (by simp))⟩
  rw [dfe jF]
  have aX : (cur == 0) = false := by simp [jF]
  go_enter Tryz.func63, Tryz.ntmps63
  go_wp2_with fail
  refine (hF _ eM dL gq).mono ?_
  rintro e' w1 ⟨rfl, hb1⟩
  have x7 : w1.cell? (ad w.heap.size 7) = some (iv cur) := jaa hb1 (by simp [go_sem])
  have x4 : w1.cell? (ad w.heap.size 4) = some (.slice d was.rules.length cd) := jaa hb1 (by simp [go_sem])
  have x5 : w1.cell? (ad w.heap.size 5) = some (.slice e was.zones.length ce) := jaa hb1 (by simp [go_sem])
  have x6 : w1.cell? (ad w.heap.size 6) = some (.slice f was.links.length cf) := jaa hb1 (by simp [go_sem])
  have jB := jA.below hb1
  have jZ := eM.of_below hb1
  have ew := dL.below hb1
  have aj := ag.trans (hb1.mono (by simp))
  clear ag hb1 jA gq eM dL au
  go_wp2_with fail
  refine (hG _ jZ ew jB).mono ?_
  rintro e' w2 ⟨rfl, ac⟩
  have an := qtr aj ac
  go_wp2
  go_ret
  exact ⟨ret_bool (by simp), an⟩
 ·have KH : ¬ (ln : Int) <= 30 := by omega
  rw [dfe qd]
  go_enter Tryz.func63, Tryz.ntmps63
  go_wp2
  go_ret
  exact ⟨rfl, ag⟩
end
end Go.Proofs.YtgiieknbckhofaaGreatDoor
