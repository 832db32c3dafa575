/- Part Law. -/
import Derived.Below
import Derived.ChangeSame
import Derived.ChangeStays
import Derived.ReadAgain
import Derived.ProofKit
import Derived.OpenShut
import Derived.Test.YtaiodbcnbcdokaaGreatKPz
set_option linter.unusedVariables false
set_option linter.unusedSimpArgs false
set_option linter.unusedSectionVars false
set_option maxRecDepth 100000
set_option maxHeartbeats 16000000
namespace Go.Proofs.YtaiodbcnbcdokaaGreat.Law
open Go Go.ChangeShapes Go.WideShapes Go.ChangeAt Go.RowKit
section
variable {H : Type} {enc : TypeId × Value → H} {P : Program}
theorem trodAll_kept {T : TypeId → Prop} (K : Kids P T) (hsz : ∀ {t e : TypeId}, T t → P.underlying t = some (.slice e) → 0 < P.cellsOf e) {W W' : World} {sp' : Nat → Bool} (hb : Below W.heap.size W W') (hs : ∀ k, k < W.heap.size → sp' k = true) :
  ∀ {ts : List TypeId} {vs : List Value} {ds : List (DataW H)} {ps : List MemPlace}, (∀ t ∈ ts, T t) → DataW.TrodAll enc P W 0 (fun _ => true) true ts vs ds ps → DataW.TrodAll enc P W' 0 sp' true ts vs ds ps
 | [], [], [], _, _, h => h
 | _ :: _, _ :: _, _ :: _, _, hT, ⟨p, q, ⟨n, h1⟩, h2, e⟩ => by
  refine ⟨p, q, ⟨n, ?_⟩, trodAll_kept K hsz hb hs (fun t ht => hT t (List.mem_cons_of_mem _ ht)) h2, e⟩
  have hlt := DataW.trod_lt _ _ _ _ h1
  exact DataW.trod_stays K hsz (fun h => by cases h) (hT _ List.mem_cons_self) h1 (fun x hx => hb.same (hlt x hx)) (fun x hx => hs _ (hlt x hx))
def lawB (P : Program) (f : Func) : Bool :=
 laidOutB P && mapsRowed P && ((List.range P.types.size).all fun t => match P.underlying t with | some (.slice e) => decide (0 < P.cellsOf e) | _ => true) && f.params.toList.all fun t => decide (t < P.types.size)
theorem law_post {f : Func} {s : ChangeSpec} {tb : TypeId} (hB : lawB P f = true) (hr : f.resultTypes = #[tb]) (hbool : P.underlying tb = some .bool) (hv : s.vars = [])
  {W W' : World} {args : Array Value} {ds gs : List (DataW H)} {before : List MemPlace} (hfn : (s.fn H (ds ++ gs)).results = [.lit (.bool true)] ∧ (s.fn H (ds ++ gs)).args = ds ∧ (s.fn H (ds ++ gs)).vars = gs)
  (hW : DataW.Whole enc P f.params.toList s.vars false W args.toList ds gs before) (hb : Below W.heap.size W W') :
  s.post enc P f false true false false W args (.bool true) W' := by
 simp only [lawB, Bool.and_eq_true] at hB
 obtain ⟨⟨⟨hl, hm⟩, hz⟩, hp⟩ := hB
 have K := kids_rows hl hm
 have hsz := slices_full_of P hz
 have hpt : ∀ t ∈ f.params.toList, t < P.types.size := fun t ht => by simpa using List.all_eq_true.1 hp t ht
 have hW' := hW
 obtain ⟨p, q, hA, hV, he, hfz, hnd⟩ := hW
 rw [hv] at hV
 obtain ⟨rfl, rfl⟩ := trodVars_none hV
 refine ⟨ds, [], before, [], p, [], hW', ?_, ?_, ?_, ?_, fun h => by cases h⟩
 ·rw [hfn.1, hr]
  exact trodAll_mk1 (shut_bool hbool _)
 ·rw [hfn.2.1]
  exact trodAll_kept (T := (· < P.types.size)) K (fun ht hu => hsz _ _ ht hu) hb (fun k hk => by simpa using hk) hpt hA
 ·rw [hfn.2.2, hv]; rfl
 ·exact hb.frame _
end
end Go.Proofs.YtaiodbcnbcdokaaGreat.Law
