/- The law FnExactAsOf: the live events of a store at an earlier time, as the document has them; nothing of the store is changed -/
import Derived.Test.YtgiieknbckhofaaGreatDoorCkPu
import Derived.Test.YtgiieknbckhofaaGreatDoorWAsOfu
import Derived.Test.YtgiieknbckhofaaGreatDoorClosedAsOfu
set_option maxRecDepth 100000
set_option maxHeartbeats 20000000
set_option linter.unusedSimpArgs false
namespace Go.Proofs.YtgiieknbckhofaaGreatDoor.asOf
open Go.ChangeShapes Go.WideShapes Go.ChangeAt Go.RowKit
open Go.ChangeMaps (open_string shut_string)
theorem contract (H : Type) (enc : TypeId × Value -> H) (W : World) (base : Nat) (bT : Array Value) (ds gs : List (DataW H)) (gU : List MemPlace)
  (fq : ∀ (j : Nat) t v, Tryz.f4.params[j]? = some t -> bT[j]? = some v -> Value.okWide Tryz.prog W .any base t v)
  (hW : DataW.Whole enc Tryz.prog Tryz.f4.params.toList Rows.fnExactAsOfSpec.vars false W bT.toList ds gs gU) (hL : laidMetH Tryz.prog Rows.fnExactAsOfRow.laid W) (BI : W.ShapedOpen Tryz.prog) :
  Cl 4 bT W fun e W' => ∃ v, e = .returned v /\ Rows.fnExactAsOfSpec.post enc Tryz.prog Tryz.f4 false true false false W bT v W' := by
 have Ga := hW
 obtain ⟨p, q, eM, hV, rfl, C6, PM⟩ := hW
 have hA : DataW.TrodAll enc Tryz.prog W 0 (fun _ => true) true Tryz.f4.params.toList bT.toList ds p := eM
 rw [Tryz.params4] at hA fq
 obtain ⟨v0, Qo, d0, P5, p0, q0, Gl, rfl, rfl, h0, r0⟩ := trodAll_cons hA
 obtain ⟨v1, Qp, d1, P6, p1, q1, rfl, rfl, rfl, h1, r1⟩ := trodAll_cons r0
 obtain ⟨rfl, rfl, rfl⟩ := trodAll_nil r1
 obtain rfl : bT = #[v0, v1] := by cases bT; simp_all
 have k0 := h0
 have LO : ∀ x ∈ p0, x.block < W.heap.size := by obtain ⟨m, hm⟩ := k0; exact DataW.trod_lt m _ _ _ hm
 obtain ⟨l0, vW, vX⟩ := jtc (fq 0 30 v0 rfl rfl) h0
 obtain ⟨a1, rfl, rfl, rfl, w1⟩ := open_int Tryz.underlying2 (fq 1 2 v1 rfl rfl) h1
 have hT : Tab W := js0 hL
 have gM : Mx W := Tryz.laysM145.s1_3 W BI
 have hlt : ∀ x ∈ q, x.block < W.heap.size := fun x hx => Ga.lt x (List.mem_append_right _ hx)
 obtain ⟨g, t, cs, pu, d, pv, rfl, _, _, _, _, _⟩ := trodVars_one hV
 refine (walk l0 v0 a1 W vW vX hT gM).mono fun e W' ⟨he, bel⟩ => ?_
 subst he
 refine ⟨_, rfl, _, _, _, [], _, q, Ga, trodAll_mk1 (shut_bool Tryz.underlying4 _), trodAll_cons_mk (Below.trod jwg (by kernel_rfl) (odt (by kernel_rfl)) k0 bel LO) (trodAll_cons_mk (shut_int Tryz.underlying2 w1) trodAll_mk0), juv hV hlt hT bel, bel.frame _, fun h => by cases h⟩
theorem laid_met (os : Os) : laidMet Tryz.prog Rows.fnExactAsOfRow.laid ((jql (jwh (World.holding Tryz.prog os ⟨#[], #[], []⟩))).forCall (fun _ _ => 0) ⟨#[], #[.agg #[iv 0, nS, nS, nS, nS, nS, nS, iv 0, nS, nS], iv 0], []⟩).memory :=
 laidMet_of_run' 8 (by kernel_rfl) (by kernel_rfl)
theorem reads (os : Os) {H : Type} (enc : TypeId × Value -> H) : ∃ kV, DataW.whole enc Tryz.prog ((jql (jwh (World.holding Tryz.prog os ⟨#[], #[], []⟩))).forCall (fun _ _ => 0) ⟨#[], #[.agg #[iv 0, nS, nS, nS, nS, nS, nS, iv 0, nS, nS], iv 0], []⟩).memory Tryz.f4.params.toList Rows.fnExactAsOfSpec.vars false #[Value.agg #[iv 0, nS, nS, nS, nS, nS, nS, iv 0, nS, nS], iv 0].toList 8 = some ([.agg [.lit (.int .i64 0), .agg [.nil, .nil, .nil], .agg [.nil, .nil, .nil], .lit (.int .i64 0), .nil, .nil], .lit (.int .i64 0)], [Rows.laid_loop_example_g00364_impl_monthLengths], kV) :=
 ⟨MemPlace.row (ad (0) 0) 13, by kernel_rfl⟩
theorem lifted (os : Os) (fv : os.Started) (H : Type) (enc : TypeId × Value -> H) (F : Stop.Interp) :
  ReturnsInHanded {} Tryz.checked os 4 .any ((OpenSpec.ofChange Rows.fnExactAsOfSpec).preRow enc Tryz.prog Tryz.f4 Rows.fnExactAsOfRow.domain false Rows.fnExactAsOfRow.laid) (((OpenSpec.ofChange Rows.fnExactAsOfSpec).at F).post enc Tryz.prog Tryz.f4 false true false false) := by
 obtain ⟨kV, hx⟩ := reads os enc
 refine returnsInHanded_of_row (C := Tryz.checked) (s := OpenSpec.ofChange Rows.fnExactAsOfSpec) own fv (by kernel_rfl) Tryz.func4
  (witness_row_at (enc := enc) (C := Tryz.checked) false (jql (jwh (World.holding Tryz.prog os ⟨#[], #[], []⟩))) #[.agg #[iv 0, nS, nS, nS, nS, nS, nS, iv 0, nS, nS], iv 0] rfl (by kernel_rfl) (by kernel_rfl) (by kernel_rfl)
   (OpenSpec.preRow_of_cond 8 hx (by kernel_rfl) (fun k hk => by cases hk) (by kernel_rfl) (laid_met os))) ?_
 intro W base bT ds gs gU fq hW _ _ _ hL BI _
 exact contract H enc W base bT ds gs gU fq hW hL BI
theorem said : Rows.FnExactAsOfSaid :=
 OpenClaim.holds_of_cond 4 Tryz.f4 rfl rfl rfl rfl rfl rfl rfl ⟨rfl, rfl, rfl, rfl, rfl⟩ rfl rfl rfl rfl rfl (by kernel_rfl) Tryz.func4 closed
  (odt (by kernel_rfl)) (by unfold Func.isWrapper; first | (rw [if_pos (by decide +kernel)]; kernel_rfl) | (rw [if_neg (by decide +kernel)]; exact ⟨rfl, rfl⟩))
  (fun os fv H enc _ F => by rw [OpenClaim.pre_eq_preRow]; exact lifted os fv H enc F)
theorem plain (f : FuncId) (fn : Func) (hf : Tryz.pinned.checked.prog.funcNamed "loop.example/g00364/laws.FnExactAsOf" = some f) (vf : Tryz.pinned.checked.prog.funcs[f]? = some fn) :
  false = Tryz.pinned.checked.prog.looks [] /\ ∀ (j : Nat) t, fn.params[j]? = some t -> Tryz.pinned.checked.prog.wantsStandIn t = false := by
 obtain rfl : f = 4 := osi ((show Tryz.prog.funcNamed "loop.example/g00364/laws.FnExactAsOf" = some 4 by kernel_rfl).symm.trans hf) |>.symm
 obtain rfl : fn = Tryz.f4 := (osi (Tryz.func4.symm.trans vf)).symm
 refine ⟨by kernel_rfl, fun j t ht => ?_⟩
 rw [Tryz.params4] at ht
 have hm : t ∈ [30, 2] := by simpa using Array.mem_of_getElem? ht
 have ak : ([30, 2].all fun u => !Tryz.prog.wantsStandIn u) = true := by kernel_rfl
 exact (show Tryz.prog.wantsStandIn t = false by simpa using List.all_eq_true.1 ak t hm)
end Go.Proofs.YtgiieknbckhofaaGreatDoor.asOf
namespace Go.Proofs.YtgiieknbckhofaaGreatDoor
theorem asOf_card : Rows.FnExactAsOfCardSaid :=
 Claim7.holds_tied_plain_at .later [] _ _ _ _ asOf.said (fun _ h => by cases h) (by kernel_rfl) (fun _ h => by cases h) fnExactAsOf_row_tie rfl ⟨rfl, rfl⟩ (by kernel_rfl) rfl asOf.plain (by kernel_rfl)
end Go.Proofs.YtgiieknbckhofaaGreatDoor
