/- The law FnExactHistory: at every store and Id the program's History answers as the model's, every version in its order; the store is not changed, and the answer owns its memory. No condition but the card's own. -/
import Derived.Test.YtgiieknbckhofaaGreatDoorCkPs
import Derived.Test.YtgiieknbckhofaaGreatDoorWHistorys
import Derived.Test.YtgiieknbckhofaaGreatDoorClosedHistorys
set_option maxRecDepth 100000
set_option maxHeartbeats 20000000
set_option linter.unusedSimpArgs false
namespace Go.Proofs.YtgiieknbckhofaaGreatDoor.history
open Go.ChangeShapes Go.WideShapes Go.ChangeAt Go.RowKit
open Go.ChangeMaps (open_string shut_string)
theorem contract (H : Type) (enc : TypeId × Value -> H) (W : World) (base : Nat) (aY : Array Value) (ds gs : List (DataW H)) (dn : List MemPlace)
  (dG : ∀ (j : Nat) t v, Tryz.f5.params[j]? = some t -> aY[j]? = some v -> Value.okWide Tryz.prog W .any base t v)
  (hW : DataW.Whole enc Tryz.prog Tryz.f5.params.toList Rows.fnExactHistorySpec.vars false W aY.toList ds gs dn) (hL : laidMetH Tryz.prog Rows.fnExactHistoryRow.laid W) (qM : W.ShapedOpen Tryz.prog) :
  Cl 5 aY W fun e W' => ∃ v, e = .returned v /\ Rows.fnExactHistorySpec.post enc Tryz.prog Tryz.f5 false true false false W aY v W' := by
 have vR := hW
 obtain ⟨p, q, et, hV, rfl, yZ, LH⟩ := hW
 have hA : DataW.TrodAll enc Tryz.prog W 0 (fun _ => true) true Tryz.f5.params.toList aY.toList ds p := et
 rw [Tryz.params5] at hA dG
 obtain ⟨v0, Nm, d0, K4, p0, q0, vV, rfl, rfl, h0, r0⟩ := trodAll_cons hA
 obtain ⟨v1, Q7, d1, OX, p1, q1, rfl, rfl, rfl, h1, r1⟩ := trodAll_cons r0
 obtain ⟨rfl, rfl, rfl⟩ := trodAll_nil r1
 obtain rfl : aY = #[v0, v1] := by cases aY; simp_all
 have k0 := h0
 have E5 : ∀ x ∈ p0, x.block < W.heap.size := by obtain ⟨m, hm⟩ := k0; exact DataW.trod_lt m _ _ _ hm
 obtain ⟨l0, lJ, lK⟩ := jk3 (dG 0 30 v0 rfl rfl) h0
 obtain ⟨a1, rfl, rfl, rfl, w1⟩ := open_int Tryz.underlying2 (dG 1 2 v1 rfl rfl) h1
 have hT : Tab W := jky hL
 have fg : Mx W := Tryz.laysM145.s1_3 W qM
 have hlt : ∀ x ∈ q, x.block < W.heap.size := fun x hx => vR.lt x (List.mem_append_right _ hx)
 obtain ⟨g, t, cs, mO, d, pv, rfl, _, _, _, _, _⟩ := trodVars_one hV
 refine (walk l0 v0 a1 W lJ lK hT fg).mono fun e W' ⟨he, bel⟩ => ?_
 subst he
 refine ⟨_, rfl, _, _, _, [], _, q, vR, trodAll_mk1 (shut_bool Tryz.underlying4 _), trodAll_cons_mk (Below.trod jqt (by kernel_rfl) (odt (by kernel_rfl)) k0 bel E5) (trodAll_cons_mk (shut_int Tryz.underlying2 w1) trodAll_mk0), jm9 hV hlt hT bel, bel.frame _, fun h => by cases h⟩
theorem laid_met (os : Os) : laidMet Tryz.prog Rows.fnExactHistoryRow.laid ((jge (jk5 (World.holding Tryz.prog os ⟨#[], #[], []⟩))).forCall (fun _ _ => 0) ⟨#[], #[.agg #[iv 0, nS, nS, nS, nS, nS, nS, iv 0, nS, nS], iv 0], []⟩).memory :=
 laidMet_of_run' 8 (by kernel_rfl) (by kernel_rfl)
theorem reads (os : Os) {H : Type} (enc : TypeId × Value -> H) : ∃ eJ, DataW.whole enc Tryz.prog ((jge (jk5 (World.holding Tryz.prog os ⟨#[], #[], []⟩))).forCall (fun _ _ => 0) ⟨#[], #[.agg #[iv 0, nS, nS, nS, nS, nS, nS, iv 0, nS, nS], iv 0], []⟩).memory Tryz.f5.params.toList Rows.fnExactHistorySpec.vars false #[Value.agg #[iv 0, nS, nS, nS, nS, nS, nS, iv 0, nS, nS], iv 0].toList 8 = some ([.agg [.lit (.int .i64 0), .agg [.nil, .nil, .nil], .agg [.nil, .nil, .nil], .lit (.int .i64 0), .nil, .nil], .lit (.int .i64 0)], [Rows.laid_loop_example_g00364_impl_monthLengths], eJ) :=
 ⟨MemPlace.row (ad (0) 0) 13, by kernel_rfl⟩
theorem lifted (os : Os) (cp : os.Started) (H : Type) (enc : TypeId × Value -> H) (F : Stop.Interp) :
  ReturnsInHanded {} Tryz.checked os 5 .any ((OpenSpec.ofChange Rows.fnExactHistorySpec).preRow enc Tryz.prog Tryz.f5 Rows.fnExactHistoryRow.domain false Rows.fnExactHistoryRow.laid) (((OpenSpec.ofChange Rows.fnExactHistorySpec).at F).post enc Tryz.prog Tryz.f5 false true false false) := by
 obtain ⟨eJ, hx⟩ := reads os enc
 refine returnsInHanded_of_row (C := Tryz.checked) (s := OpenSpec.ofChange Rows.fnExactHistorySpec) own cp (by kernel_rfl) Tryz.func5
  (witness_row_at (enc := enc) (C := Tryz.checked) false (jge (jk5 (World.holding Tryz.prog os ⟨#[], #[], []⟩))) #[.agg #[iv 0, nS, nS, nS, nS, nS, nS, iv 0, nS, nS], iv 0] rfl (by kernel_rfl) (by kernel_rfl) (by kernel_rfl)
   (OpenSpec.preRow_of_cond 8 hx (by kernel_rfl) (fun k hk => by cases hk) (by kernel_rfl) (laid_met os))) ?_
 intro W base aY ds gs dn dG hW _ _ _ hL qM _
 exact contract H enc W base aY ds gs dn dG hW hL qM
theorem said : Rows.FnExactHistorySaid :=
 OpenClaim.holds_of_cond 5 Tryz.f5 rfl rfl rfl rfl rfl rfl rfl ⟨rfl, rfl, rfl, rfl, rfl⟩ rfl rfl rfl rfl rfl (by kernel_rfl) Tryz.func5 closed
  (odt (by kernel_rfl)) (by unfold Func.isWrapper; first | (rw [if_pos (by decide +kernel)]; kernel_rfl) | (rw [if_neg (by decide +kernel)]; exact ⟨rfl, rfl⟩))
  (fun os cp H enc _ F => by rw [OpenClaim.pre_eq_preRow]; exact lifted os cp H enc F)
theorem plain (f : FuncId) (fn : Func) (hf : Tryz.pinned.checked.prog.funcNamed "loop.example/g00364/laws.FnExactHistory" = some f) (re : Tryz.pinned.checked.prog.funcs[f]? = some fn) :
  false = Tryz.pinned.checked.prog.looks [] /\ ∀ (j : Nat) t, fn.params[j]? = some t -> Tryz.pinned.checked.prog.wantsStandIn t = false := by
 obtain rfl : f = 5 := osi ((show Tryz.prog.funcNamed "loop.example/g00364/laws.FnExactHistory" = some 5 by kernel_rfl).symm.trans hf) |>.symm
 obtain rfl : fn = Tryz.f5 := (osi (Tryz.func5.symm.trans re)).symm
 refine ⟨by kernel_rfl, fun j t ht => ?_⟩
 rw [Tryz.params5] at ht
 have hm : t ∈ [30, 2] := by simpa using Array.mem_of_getElem? ht
 have ak : ([30, 2].all fun u => !Tryz.prog.wantsStandIn u) = true := by kernel_rfl
 exact (show Tryz.prog.wantsStandIn t = false by simpa using List.all_eq_true.1 ak t hm)
end Go.Proofs.YtgiieknbckhofaaGreatDoor.history
namespace Go.Proofs.YtgiieknbckhofaaGreatDoor
theorem history_card : Rows.FnExactHistoryCardSaid :=
 Claim7.holds_tied_plain_at .later [] _ _ _ _ history.said (fun _ h => by cases h) (by kernel_rfl) (fun _ h => by cases h) fnExactHistory_row_tie rfl ⟨rfl, rfl⟩ (by kernel_rfl) rfl history.plain (by kernel_rfl)
end Go.Proofs.YtgiieknbckhofaaGreatDoor
