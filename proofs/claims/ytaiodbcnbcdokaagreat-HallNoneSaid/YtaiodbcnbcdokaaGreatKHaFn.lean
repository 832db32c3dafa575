/- Part HaFn. -/
import Derived.Test.YtaiodbcnbcdokaaGreatKWorkLnD
import Derived.Test.YtaiodbcnbcdokaaGreatKHaAt
import Derived.Test.YtaiodbcnbcdokaaGreatKBegins
set_option linter.unusedVariables false
set_option linter.unusedSimpArgs false
set_option linter.unusedSectionVars false
set_option maxRecDepth 100000
set_option maxHeartbeats 16000000
section
namespace Go.Proofs.YtaiodbcnbcdokaaGreat.Me
open Go Go.RowKit Go.ChangeMaps Gro Own Wd Ap Go.Proofs.YtaiodbcnbcdokaaGreat.Pl Wo Mr
theorem rlF_1 : RG false 1 133 fA 134 fA eu := qa30
theorem wlF_1 {B : Nat} {w : World} {g gl cap : Nat} {c : Cfg} {a : Acc} {L : List Int} (M : aC B w g c a gl cap L) (hf : c.Wf) (hb : 1 ≤ c.bl ∧ c.bl ≤ 100) (hm : L.length ≤ 1000) (hL : WR L) (wk : Int) (s : Wk) (x : St) (hx : Few 200 x) (h : aP w s x) (hp : PR x.p) (hgv : x.p.gv = false) (hln : x.p.ln = 1) :
  Calls Tryz.prog 55 #[.pointer (some ⟨g, 0, none⟩), .int .i64 wk, wv s] w (WS B g gl cap c (ay c wk a L x).a (ay c wk a L x).L (ay c wk a L x).x true w) := by
 have e : ay c wk a L x = fol (bE (bX c a L x.p wk).fin x) iO id := dS
 rw [e]
 refine aV (NP := eu) M wk s x (hx.mono aj) h hgv hln aX aX (fun h _ => h) (fun h _ _ _ => h) rlF_1 Tryz.call133 (bE (bX c a L x.p wk).fin x) (Lib.hid ?_) iO id Tryz.call134 (fun _ => Lib.hid ?_) ?_
 ·exact qa31
 ·exact qa32
 ·exact qa33
theorem rlF_2 : RG false 2 133 fA 134 fA eu := qa30
theorem wlF_2 {B : Nat} {w : World} {g gl cap : Nat} {c : Cfg} {a : Acc} {L : List Int} (M : aC B w g c a gl cap L) (hf : c.Wf) (hb : 1 ≤ c.bl ∧ c.bl ≤ 100) (hm : L.length ≤ 1000) (hL : WR L) (wk : Int) (s : Wk) (x : St) (hx : Few 200 x) (h : aP w s x) (hp : PR x.p) (hgv : x.p.gv = false) (hln : x.p.ln = 2) :
  Calls Tryz.prog 55 #[.pointer (some ⟨g, 0, none⟩), .int .i64 wk, wv s] w (WS B g gl cap c (ay c wk a L x).a (ay c wk a L x).L (ay c wk a L x).x true w) := by
 have e : ay c wk a L x = fol (bE (bX c a L x.p wk).fin x) iO id := dS
 rw [e]
 refine aV (NP := eu) M wk s x (hx.mono aj) h hgv hln aX aX (fun h _ => h) (fun h _ _ _ => h) rlF_2 Tryz.call133 (bE (bX c a L x.p wk).fin x) (Lib.hid ?_) iO id Tryz.call134 (fun _ => Lib.hid ?_) ?_
 ·exact qa31
 ·exact qa32
 ·exact qa33
theorem rlF_3 : RG false 3 133 fA 134 fA eu := qa30
theorem wlF_3 {B : Nat} {w : World} {g gl cap : Nat} {c : Cfg} {a : Acc} {L : List Int} (M : aC B w g c a gl cap L) (hf : c.Wf) (hb : 1 ≤ c.bl ∧ c.bl ≤ 100) (hm : L.length ≤ 1000) (hL : WR L) (wk : Int) (s : Wk) (x : St) (hx : Few 200 x) (h : aP w s x) (hp : PR x.p) (hgv : x.p.gv = false) (hln : x.p.ln = 3) :
  Calls Tryz.prog 55 #[.pointer (some ⟨g, 0, none⟩), .int .i64 wk, wv s] w (WS B g gl cap c (ay c wk a L x).a (ay c wk a L x).L (ay c wk a L x).x true w) := by
 have e : ay c wk a L x = fol (bE (bX c a L x.p wk).fin x) iO id := dS
 rw [e]
 refine aV (NP := eu) M wk s x (hx.mono aj) h hgv hln aX aX (fun h _ => h) (fun h _ _ _ => h) rlF_3 Tryz.call133 (bE (bX c a L x.p wk).fin x) (Lib.hid ?_) iO id Tryz.call134 (fun _ => Lib.hid ?_) ?_
 ·exact qa31
 ·exact qa32
 ·exact qa33
theorem rlF_90 : RG false 90 133 fA 135 fA eu := qa30
theorem wlF_90 {B : Nat} {w : World} {g gl cap : Nat} {c : Cfg} {a : Acc} {L : List Int} (M : aC B w g c a gl cap L) (hf : c.Wf) (hb : 1 ≤ c.bl ∧ c.bl ≤ 100) (hm : L.length ≤ 1000) (hL : WR L) (wk : Int) (s : Wk) (x : St) (hx : Few 200 x) (h : aP w s x) (hp : PR x.p) (hgv : x.p.gv = false) (hln : x.p.ln = 90) :
  Calls Tryz.prog 55 #[.pointer (some ⟨g, 0, none⟩), .int .i64 wk, wv s] w (WS B g gl cap c (ay c wk a L x).a (ay c wk a L x).L (ay c wk a L x).x true w) := by
 have e : ay c wk a L x = fol (bE (bX c a L x.p wk).fin x) outsideS id := dS
 rw [e]
 refine aV (NP := eu) M wk s x (hx.mono aj) h hgv hln aX aX (fun h _ => h) (fun h _ _ _ => h) rlF_90 Tryz.call133 (bE (bX c a L x.p wk).fin x) (Lib.hid ?_) outsideS id Tryz.call135 (fun _ => Lib.hid ?_) ?_
 ·exact qa31
 ·intro P B1 w1 s1 gc hP A1 hgc
  obtain rfl : gc = #[] := hgc
  exact fOutside c hP A1
 ·exact qa33
theorem rlF_70 : RG false 70 133 fA 160 (dw (.int .i64 73) 3) (npB 160 73 3) := qa34
theorem wlF_70 {B : Nat} {w : World} {g gl cap : Nat} {c : Cfg} {a : Acc} {L : List Int} (M : aC B w g c a gl cap L) (hf : c.Wf) (hb : 1 ≤ c.bl ∧ c.bl ≤ 100) (hm : L.length ≤ 1000) (hL : WR L) (wk : Int) (s : Wk) (x : St) (hx : Few 200 x) (h : aP w s x) (hp : PR x.p) (hgv : x.p.gv = false) (hln : x.p.ln = 70) :
  Calls Tryz.prog 55 #[.pointer (some ⟨g, 0, none⟩), .int .i64 wk, wv s] w (WS B g gl cap c (ay c wk a L x).a (ay c wk a L x).L (ay c wk a L x).x true w) := by
 have e : ay c wk a L x = fol (bE (bX c a L x.p wk).fin x) (fun y => atS y 73) (fun y => atS y 73) := dS
 rw [e]
 refine aV (NP := (npB 160 73 3)) M wk s x (hx.mono aj) h hgv hln aX (aK _ _) bR bJ rlF_70 Tryz.call133 (bE (bX c a L x.p wk).fin x) (Lib.hid ?_) (fun y => atS y 73) (fun y => atS y 73) Tryz.call160 (fun _ => Lib.hid ?_) ?_
 ·exact qa31
 ·exact qa35
 ·exact qa36
theorem rlF_71 : RG false 71 133 fA 160 (dw (.int .i64 73) 3) (npB 160 73 3) := qa34
theorem wlF_71 {B : Nat} {w : World} {g gl cap : Nat} {c : Cfg} {a : Acc} {L : List Int} (M : aC B w g c a gl cap L) (hf : c.Wf) (hb : 1 ≤ c.bl ∧ c.bl ≤ 100) (hm : L.length ≤ 1000) (hL : WR L) (wk : Int) (s : Wk) (x : St) (hx : Few 200 x) (h : aP w s x) (hp : PR x.p) (hgv : x.p.gv = false) (hln : x.p.ln = 71) :
  Calls Tryz.prog 55 #[.pointer (some ⟨g, 0, none⟩), .int .i64 wk, wv s] w (WS B g gl cap c (ay c wk a L x).a (ay c wk a L x).L (ay c wk a L x).x true w) := by
 have e : ay c wk a L x = fol (bE (bX c a L x.p wk).fin x) (fun y => atS y 73) (fun y => atS y 73) := dS
 rw [e]
 refine aV (NP := (npB 160 73 3)) M wk s x (hx.mono aj) h hgv hln aX (aK _ _) bR bJ rlF_71 Tryz.call133 (bE (bX c a L x.p wk).fin x) (Lib.hid ?_) (fun y => atS y 73) (fun y => atS y 73) Tryz.call160 (fun _ => Lib.hid ?_) ?_
 ·exact qa31
 ·exact qa35
 ·exact qa36
theorem rlF_72 : RG false 72 133 fA 160 (dw (.int .i64 73) 3) (npB 160 73 3) := qa34
theorem wlF_72 {B : Nat} {w : World} {g gl cap : Nat} {c : Cfg} {a : Acc} {L : List Int} (M : aC B w g c a gl cap L) (hf : c.Wf) (hb : 1 ≤ c.bl ∧ c.bl ≤ 100) (hm : L.length ≤ 1000) (hL : WR L) (wk : Int) (s : Wk) (x : St) (hx : Few 200 x) (h : aP w s x) (hp : PR x.p) (hgv : x.p.gv = false) (hln : x.p.ln = 72) :
  Calls Tryz.prog 55 #[.pointer (some ⟨g, 0, none⟩), .int .i64 wk, wv s] w (WS B g gl cap c (ay c wk a L x).a (ay c wk a L x).L (ay c wk a L x).x true w) := by
 have e : ay c wk a L x = fol (bE (bX c a L x.p wk).fin x) (fun y => atS y 73) (fun y => atS y 73) := dS
 rw [e]
 refine aV (NP := (npB 160 73 3)) M wk s x (hx.mono aj) h hgv hln aX (aK _ _) bR bJ rlF_72 Tryz.call133 (bE (bX c a L x.p wk).fin x) (Lib.hid ?_) (fun y => atS y 73) (fun y => atS y 73) Tryz.call160 (fun _ => Lib.hid ?_) ?_
 ·exact qa31
 ·exact qa35
 ·exact qa36
theorem rlF_73 : RG false 73 137 fA 138 fA eu := qa30
theorem wlF_73 {B : Nat} {w : World} {g gl cap : Nat} {c : Cfg} {a : Acc} {L : List Int} (M : aC B w g c a gl cap L) (hf : c.Wf) (hb : 1 ≤ c.bl ∧ c.bl ≤ 100) (hm : L.length ≤ 1000) (hL : WR L) (wk : Int) (s : Wk) (x : St) (hx : Few 200 x) (h : aP w s x) (hp : PR x.p) (hgv : x.p.gv = false) (hln : x.p.ln = 73) :
  Calls Tryz.prog 55 #[.pointer (some ⟨g, 0, none⟩), .int .i64 wk, wv s] w (WS B g gl cap c (ay c wk a L x).a (ay c wk a L x).L (ay c wk a L x).x true w) := by
 have e : ay c wk a L x = fol (ripeR c wk a L x) bG id := dS
 rw [e]
 refine aV (NP := eu) M wk s x (hx.mono aj) h hgv hln aX aX (fun h _ => h) (fun h _ _ _ => h) rlF_73 Tryz.call137 (ripeR c wk a L x) (Lib.hid ?_) bG id Tryz.call138 (fun _ => Lib.hid ?_) ?_
 ·intro P B1 w1 s1 sc hP hG M1 A1 hcp hsc
  obtain rfl : sc = #[] := hsc
  exact fRipen M1 hf hm hL s1 x hx hp hP hG A1 wk (epLt hL)
 ·intro P B1 w1 s1 gc hP A1 hgc
  obtain rfl : gc = #[] := hgc
  exact fThen c hP A1 ((few_ripe hx _).mono aj)
 ·intro h2
  exact absurd h2 (by show ¬ (1 : Int) = 2; decide)
theorem rlF_36 : RG false 36 163 (dw (fnV 140) 193) 165 (dw (.int .i64 0) 32) (npB 165 9 32) := qa37
theorem wlF_36 {B : Nat} {w : World} {g gl cap : Nat} {c : Cfg} {a : Acc} {L : List Int} (M : aC B w g c a gl cap L) (hf : c.Wf) (hb : 1 ≤ c.bl ∧ c.bl ≤ 100) (hm : L.length ≤ 1000) (hL : WR L) (wk : Int) (s : Wk) (x : St) (hx : Few 200 x) (h : aP w s x) (hp : PR x.p) (hgv : x.p.gv = false) (hln : x.p.ln = 36) :
  Calls Tryz.prog 55 #[.pointer (some ⟨g, 0, none⟩), .int .i64 wk, wv s] w (WS B g gl cap c (ay c wk a L x).a (ay c wk a L x).L (ay c wk a L x).x true w) := by
 have e : ay c wk a L x = fol (bE (fq c a L x.p).fin x) (fun y => endS y 0) (fun y => endS y 9) := dS
 rw [e]
 refine aV (NP := (npB 165 9 32)) M wk s x (hx.mono aj) h hgv hln (aK _ _) (aK _ _) bR bJ rlF_36 Tryz.call163 (bE (fq c a L x.p).fin x) (Lib.hid ?_) (fun y => endS y 0) (fun y => endS y 9) Tryz.call165 (fun _ => Lib.hid ?_) ?_
 ·exact qa38
 ·intro P B1 w1 s1 gc hP A1 hgc
  obtain ⟨a9, rfl, hbx⟩ := hgc
  exact fEndW c hP A1 hbx.bk
 ·exact qa39
theorem rlF_37 : RG false 37 163 (dw (fnV 140) 193) 165 (dw (.int .i64 0) 32) (npB 165 9 32) := qa37
theorem wlF_37 {B : Nat} {w : World} {g gl cap : Nat} {c : Cfg} {a : Acc} {L : List Int} (M : aC B w g c a gl cap L) (hf : c.Wf) (hb : 1 ≤ c.bl ∧ c.bl ≤ 100) (hm : L.length ≤ 1000) (hL : WR L) (wk : Int) (s : Wk) (x : St) (hx : Few 200 x) (h : aP w s x) (hp : PR x.p) (hgv : x.p.gv = false) (hln : x.p.ln = 37) :
  Calls Tryz.prog 55 #[.pointer (some ⟨g, 0, none⟩), .int .i64 wk, wv s] w (WS B g gl cap c (ay c wk a L x).a (ay c wk a L x).L (ay c wk a L x).x true w) := by
 have e : ay c wk a L x = fol (bE (fq c a L x.p).fin x) (fun y => endS y 0) (fun y => endS y 9) := dS
 rw [e]
 refine aV (NP := (npB 165 9 32)) M wk s x (hx.mono aj) h hgv hln (aK _ _) (aK _ _) bR bJ rlF_37 Tryz.call163 (bE (fq c a L x.p).fin x) (Lib.hid ?_) (fun y => endS y 0) (fun y => endS y 9) Tryz.call165 (fun _ => Lib.hid ?_) ?_
 ·exact qa38
 ·intro P B1 w1 s1 gc hP A1 hgc
  obtain ⟨a9, rfl, hbx⟩ := hgc
  exact fEndW c hP A1 hbx.bk
 ·exact qa39
theorem rlF_10 : RG false 10 163 (dw (fnV 145) 193) 169 (dw (.int .i64 50) 3) (npB 170 5 32) := qa3a
theorem wlF_10 {B : Nat} {w : World} {g gl cap : Nat} {c : Cfg} {a : Acc} {L : List Int} (M : aC B w g c a gl cap L) (hf : c.Wf) (hb : 1 ≤ c.bl ∧ c.bl ≤ 100) (hm : L.length ≤ 1000) (hL : WR L) (wk : Int) (s : Wk) (x : St) (hx : Few 200 x) (h : aP w s x) (hp : PR x.p) (hgv : x.p.gv = false) (hln : x.p.ln = 10) :
  Calls Tryz.prog 55 #[.pointer (some ⟨g, 0, none⟩), .int .i64 wk, wv s] w (WS B g gl cap c (ay c wk a L x).a (ay c wk a L x).L (ay c wk a L x).x true w) := by
 have e : ay c wk a L x = fol (eB (dD c a L x)) (dK 50) (bS 5) := dS
 rw [e]
 refine aV (NP := (npB 170 5 32)) M wk s x (hx.mono aj) h hgv hln (aK _ _) (aK _ _) bR bJ rlF_10 Tryz.call163 (eB (dD c a L x)) (Lib.hid ?_) (dK 50) (bS 5) Tryz.call169 (fun _ => Lib.hid ?_) ?_
 ·exact qa3b
 ·exact qa3c
 ·exact qa3d
theorem rlF_11 : RG false 11 163 (dw (fnV 145) 193) 169 (dw (.int .i64 50) 3) (npB 170 5 32) := qa3a
theorem wlF_11 {B : Nat} {w : World} {g gl cap : Nat} {c : Cfg} {a : Acc} {L : List Int} (M : aC B w g c a gl cap L) (hf : c.Wf) (hb : 1 ≤ c.bl ∧ c.bl ≤ 100) (hm : L.length ≤ 1000) (hL : WR L) (wk : Int) (s : Wk) (x : St) (hx : Few 200 x) (h : aP w s x) (hp : PR x.p) (hgv : x.p.gv = false) (hln : x.p.ln = 11) :
  Calls Tryz.prog 55 #[.pointer (some ⟨g, 0, none⟩), .int .i64 wk, wv s] w (WS B g gl cap c (ay c wk a L x).a (ay c wk a L x).L (ay c wk a L x).x true w) := by
 have e : ay c wk a L x = fol (eB (dD c a L x)) (dK 50) (bS 5) := dS
 rw [e]
 refine aV (NP := (npB 170 5 32)) M wk s x (hx.mono aj) h hgv hln (aK _ _) (aK _ _) bR bJ rlF_11 Tryz.call163 (eB (dD c a L x)) (Lib.hid ?_) (dK 50) (bS 5) Tryz.call169 (fun _ => Lib.hid ?_) ?_
 ·exact qa3b
 ·exact qa3c
 ·exact qa3d
theorem rlF_12 : RG false 12 163 (dw (fnV 145) 193) 169 (dw (.int .i64 50) 3) (npB 170 5 32) := qa3a
theorem wlF_12 {B : Nat} {w : World} {g gl cap : Nat} {c : Cfg} {a : Acc} {L : List Int} (M : aC B w g c a gl cap L) (hf : c.Wf) (hb : 1 ≤ c.bl ∧ c.bl ≤ 100) (hm : L.length ≤ 1000) (hL : WR L) (wk : Int) (s : Wk) (x : St) (hx : Few 200 x) (h : aP w s x) (hp : PR x.p) (hgv : x.p.gv = false) (hln : x.p.ln = 12) :
  Calls Tryz.prog 55 #[.pointer (some ⟨g, 0, none⟩), .int .i64 wk, wv s] w (WS B g gl cap c (ay c wk a L x).a (ay c wk a L x).L (ay c wk a L x).x true w) := by
 have e : ay c wk a L x = fol (eB (dD c a L x)) (dK 50) (bS 5) := dS
 rw [e]
 refine aV (NP := (npB 170 5 32)) M wk s x (hx.mono aj) h hgv hln (aK _ _) (aK _ _) bR bJ rlF_12 Tryz.call163 (eB (dD c a L x)) (Lib.hid ?_) (dK 50) (bS 5) Tryz.call169 (fun _ => Lib.hid ?_) ?_
 ·exact qa3b
 ·exact qa3c
 ·exact qa3d
end Go.Proofs.YtaiodbcnbcdokaaGreat.Me
end
section
namespace Go.Proofs.YtaiodbcnbcdokaaGreat.Me
open Go Go.RowKit Go.ChangeMaps Gro Own Wd Ap Go.Proofs.YtaiodbcnbcdokaaGreat.Pl Wo Mr
theorem rlF_30 : RG false 30 163 (dw (fnV 145) 193) 169 (dw (.int .i64 50) 3) (npB 170 5 32) := qa3a
theorem wlF_30 {B : Nat} {w : World} {g gl cap : Nat} {c : Cfg} {a : Acc} {L : List Int} (M : aC B w g c a gl cap L) (hf : c.Wf) (hb : 1 ≤ c.bl ∧ c.bl ≤ 100) (hm : L.length ≤ 1000) (hL : WR L) (wk : Int) (s : Wk) (x : St) (hx : Few 200 x) (h : aP w s x) (hp : PR x.p) (hgv : x.p.gv = false) (hln : x.p.ln = 30) :
  Calls Tryz.prog 55 #[.pointer (some ⟨g, 0, none⟩), .int .i64 wk, wv s] w (WS B g gl cap c (ay c wk a L x).a (ay c wk a L x).L (ay c wk a L x).x true w) := by
 have e : ay c wk a L x = fol (eB (dD c a L x)) (dK 50) (bS 5) := dS
 rw [e]
 refine aV (NP := (npB 170 5 32)) M wk s x (hx.mono aj) h hgv hln (aK _ _) (aK _ _) bR bJ rlF_30 Tryz.call163 (eB (dD c a L x)) (Lib.hid ?_) (dK 50) (bS 5) Tryz.call169 (fun _ => Lib.hid ?_) ?_
 ·exact qa3b
 ·exact qa3c
 ·exact qa3d
theorem rlF_31 : RG false 31 163 (dw (fnV 145) 193) 169 (dw (.int .i64 50) 3) (npB 170 5 32) := qa3a
theorem wlF_31 {B : Nat} {w : World} {g gl cap : Nat} {c : Cfg} {a : Acc} {L : List Int} (M : aC B w g c a gl cap L) (hf : c.Wf) (hb : 1 ≤ c.bl ∧ c.bl ≤ 100) (hm : L.length ≤ 1000) (hL : WR L) (wk : Int) (s : Wk) (x : St) (hx : Few 200 x) (h : aP w s x) (hp : PR x.p) (hgv : x.p.gv = false) (hln : x.p.ln = 31) :
  Calls Tryz.prog 55 #[.pointer (some ⟨g, 0, none⟩), .int .i64 wk, wv s] w (WS B g gl cap c (ay c wk a L x).a (ay c wk a L x).L (ay c wk a L x).x true w) := by
 have e : ay c wk a L x = fol (eB (dD c a L x)) (dK 50) (bS 5) := dS
 rw [e]
 refine aV (NP := (npB 170 5 32)) M wk s x (hx.mono aj) h hgv hln (aK _ _) (aK _ _) bR bJ rlF_31 Tryz.call163 (eB (dD c a L x)) (Lib.hid ?_) (dK 50) (bS 5) Tryz.call169 (fun _ => Lib.hid ?_) ?_
 ·exact qa3b
 ·exact qa3c
 ·exact qa3d
theorem rlF_32 : RG false 32 163 (dw (fnV 145) 193) 169 (dw (.int .i64 50) 3) (npB 170 5 32) := qa3a
theorem wlF_32 {B : Nat} {w : World} {g gl cap : Nat} {c : Cfg} {a : Acc} {L : List Int} (M : aC B w g c a gl cap L) (hf : c.Wf) (hb : 1 ≤ c.bl ∧ c.bl ≤ 100) (hm : L.length ≤ 1000) (hL : WR L) (wk : Int) (s : Wk) (x : St) (hx : Few 200 x) (h : aP w s x) (hp : PR x.p) (hgv : x.p.gv = false) (hln : x.p.ln = 32) :
  Calls Tryz.prog 55 #[.pointer (some ⟨g, 0, none⟩), .int .i64 wk, wv s] w (WS B g gl cap c (ay c wk a L x).a (ay c wk a L x).L (ay c wk a L x).x true w) := by
 have e : ay c wk a L x = fol (eB (dD c a L x)) (dK 50) (bS 5) := dS
 rw [e]
 refine aV (NP := (npB 170 5 32)) M wk s x (hx.mono aj) h hgv hln (aK _ _) (aK _ _) bR bJ rlF_32 Tryz.call163 (eB (dD c a L x)) (Lib.hid ?_) (dK 50) (bS 5) Tryz.call169 (fun _ => Lib.hid ?_) ?_
 ·exact qa3b
 ·exact qa3c
 ·exact qa3d
theorem rlF_33 : RG false 33 163 (dw (fnV 145) 193) 169 (dw (.int .i64 50) 3) (npB 170 5 32) := qa3a
theorem wlF_33 {B : Nat} {w : World} {g gl cap : Nat} {c : Cfg} {a : Acc} {L : List Int} (M : aC B w g c a gl cap L) (hf : c.Wf) (hb : 1 ≤ c.bl ∧ c.bl ≤ 100) (hm : L.length ≤ 1000) (hL : WR L) (wk : Int) (s : Wk) (x : St) (hx : Few 200 x) (h : aP w s x) (hp : PR x.p) (hgv : x.p.gv = false) (hln : x.p.ln = 33) :
  Calls Tryz.prog 55 #[.pointer (some ⟨g, 0, none⟩), .int .i64 wk, wv s] w (WS B g gl cap c (ay c wk a L x).a (ay c wk a L x).L (ay c wk a L x).x true w) := by
 have e : ay c wk a L x = fol (eB (dD c a L x)) (dK 50) (bS 5) := dS
 rw [e]
 refine aV (NP := (npB 170 5 32)) M wk s x (hx.mono aj) h hgv hln (aK _ _) (aK _ _) bR bJ rlF_33 Tryz.call163 (eB (dD c a L x)) (Lib.hid ?_) (dK 50) (bS 5) Tryz.call169 (fun _ => Lib.hid ?_) ?_
 ·exact qa3b
 ·exact qa3c
 ·exact qa3d
theorem rlF_34 : RG false 34 163 (dw (fnV 145) 193) 169 (dw (.int .i64 50) 3) (npB 170 5 32) := qa3a
theorem wlF_34 {B : Nat} {w : World} {g gl cap : Nat} {c : Cfg} {a : Acc} {L : List Int} (M : aC B w g c a gl cap L) (hf : c.Wf) (hb : 1 ≤ c.bl ∧ c.bl ≤ 100) (hm : L.length ≤ 1000) (hL : WR L) (wk : Int) (s : Wk) (x : St) (hx : Few 200 x) (h : aP w s x) (hp : PR x.p) (hgv : x.p.gv = false) (hln : x.p.ln = 34) :
  Calls Tryz.prog 55 #[.pointer (some ⟨g, 0, none⟩), .int .i64 wk, wv s] w (WS B g gl cap c (ay c wk a L x).a (ay c wk a L x).L (ay c wk a L x).x true w) := by
 have e : ay c wk a L x = fol (eB (dD c a L x)) (dK 50) (bS 5) := dS
 rw [e]
 refine aV (NP := (npB 170 5 32)) M wk s x (hx.mono aj) h hgv hln (aK _ _) (aK _ _) bR bJ rlF_34 Tryz.call163 (eB (dD c a L x)) (Lib.hid ?_) (dK 50) (bS 5) Tryz.call169 (fun _ => Lib.hid ?_) ?_
 ·exact qa3b
 ·exact qa3c
 ·exact qa3d
theorem rlF_35 : RG false 35 163 (dw (fnV 145) 193) 169 (dw (.int .i64 50) 3) (npB 170 5 32) := qa3a
theorem wlF_35 {B : Nat} {w : World} {g gl cap : Nat} {c : Cfg} {a : Acc} {L : List Int} (M : aC B w g c a gl cap L) (hf : c.Wf) (hb : 1 ≤ c.bl ∧ c.bl ≤ 100) (hm : L.length ≤ 1000) (hL : WR L) (wk : Int) (s : Wk) (x : St) (hx : Few 200 x) (h : aP w s x) (hp : PR x.p) (hgv : x.p.gv = false) (hln : x.p.ln = 35) :
  Calls Tryz.prog 55 #[.pointer (some ⟨g, 0, none⟩), .int .i64 wk, wv s] w (WS B g gl cap c (ay c wk a L x).a (ay c wk a L x).L (ay c wk a L x).x true w) := by
 have e : ay c wk a L x = fol (eB (dD c a L x)) (dK 50) (bS 5) := dS
 rw [e]
 refine aV (NP := (npB 170 5 32)) M wk s x (hx.mono aj) h hgv hln (aK _ _) (aK _ _) bR bJ rlF_35 Tryz.call163 (eB (dD c a L x)) (Lib.hid ?_) (dK 50) (bS 5) Tryz.call169 (fun _ => Lib.hid ?_) ?_
 ·exact qa3b
 ·exact qa3c
 ·exact qa3d
theorem rlF_38 : RG false 38 163 (dw (fnV 145) 193) 169 (dw (.int .i64 50) 3) (npB 170 5 32) := qa3a
theorem wlF_38 {B : Nat} {w : World} {g gl cap : Nat} {c : Cfg} {a : Acc} {L : List Int} (M : aC B w g c a gl cap L) (hf : c.Wf) (hb : 1 ≤ c.bl ∧ c.bl ≤ 100) (hm : L.length ≤ 1000) (hL : WR L) (wk : Int) (s : Wk) (x : St) (hx : Few 200 x) (h : aP w s x) (hp : PR x.p) (hgv : x.p.gv = false) (hln : x.p.ln = 38) :
  Calls Tryz.prog 55 #[.pointer (some ⟨g, 0, none⟩), .int .i64 wk, wv s] w (WS B g gl cap c (ay c wk a L x).a (ay c wk a L x).L (ay c wk a L x).x true w) := by
 have e : ay c wk a L x = fol (eB (dD c a L x)) (dK 50) (bS 5) := dS
 rw [e]
 refine aV (NP := (npB 170 5 32)) M wk s x (hx.mono aj) h hgv hln (aK _ _) (aK _ _) bR bJ rlF_38 Tryz.call163 (eB (dD c a L x)) (Lib.hid ?_) (dK 50) (bS 5) Tryz.call169 (fun _ => Lib.hid ?_) ?_
 ·exact qa3b
 ·exact qa3c
 ·exact qa3d
theorem rlF_20 : RG false 20 163 (dw (fnV 148) 193) 138 fA (npB 170 5 32) := qa3e
theorem wlF_20 {B : Nat} {w : World} {g gl cap : Nat} {c : Cfg} {a : Acc} {L : List Int} (M : aC B w g c a gl cap L) (hf : c.Wf) (hb : 1 ≤ c.bl ∧ c.bl ≤ 100) (hm : L.length ≤ 1000) (hL : WR L) (wk : Int) (s : Wk) (x : St) (hx : Few 200 x) (h : aP w s x) (hp : PR x.p) (hgv : x.p.gv = false) (hln : x.p.ln = 20) :
  Calls Tryz.prog 55 #[.pointer (some ⟨g, 0, none⟩), .int .i64 wk, wv s] w (WS B g gl cap c (ay c wk a L x).a (ay c wk a L x).L (ay c wk a L x).x true w) := by
 have e : ay c wk a L x = fol (bE (aU c a L x.p).fin x) bG (bS 5) := dS
 rw [e]
 refine aV (NP := (npB 170 5 32)) M wk s x (hx.mono aj) h hgv hln (aK _ _) aX bR bJ rlF_20 Tryz.call163 (bE (aU c a L x.p).fin x) (Lib.hid ?_) bG (bS 5) Tryz.call138 (fun _ => Lib.hid ?_) ?_
 ·exact qa3f
 ·exact qa3g
 ·exact qa3h
theorem rlF_21 : RG false 21 163 (dw (fnV 148) 193) 138 fA (npB 170 5 32) := qa3e
theorem wlF_21 {B : Nat} {w : World} {g gl cap : Nat} {c : Cfg} {a : Acc} {L : List Int} (M : aC B w g c a gl cap L) (hf : c.Wf) (hb : 1 ≤ c.bl ∧ c.bl ≤ 100) (hm : L.length ≤ 1000) (hL : WR L) (wk : Int) (s : Wk) (x : St) (hx : Few 200 x) (h : aP w s x) (hp : PR x.p) (hgv : x.p.gv = false) (hln : x.p.ln = 21) :
  Calls Tryz.prog 55 #[.pointer (some ⟨g, 0, none⟩), .int .i64 wk, wv s] w (WS B g gl cap c (ay c wk a L x).a (ay c wk a L x).L (ay c wk a L x).x true w) := by
 have e : ay c wk a L x = fol (bE (aU c a L x.p).fin x) bG (bS 5) := dS
 rw [e]
 refine aV (NP := (npB 170 5 32)) M wk s x (hx.mono aj) h hgv hln (aK _ _) aX bR bJ rlF_21 Tryz.call163 (bE (aU c a L x.p).fin x) (Lib.hid ?_) bG (bS 5) Tryz.call138 (fun _ => Lib.hid ?_) ?_
 ·exact qa3f
 ·exact qa3g
 ·exact qa3h
theorem rlF_22 : RG false 22 163 (dw (fnV 148) 193) 138 fA (npB 170 5 32) := qa3e
theorem wlF_22 {B : Nat} {w : World} {g gl cap : Nat} {c : Cfg} {a : Acc} {L : List Int} (M : aC B w g c a gl cap L) (hf : c.Wf) (hb : 1 ≤ c.bl ∧ c.bl ≤ 100) (hm : L.length ≤ 1000) (hL : WR L) (wk : Int) (s : Wk) (x : St) (hx : Few 200 x) (h : aP w s x) (hp : PR x.p) (hgv : x.p.gv = false) (hln : x.p.ln = 22) :
  Calls Tryz.prog 55 #[.pointer (some ⟨g, 0, none⟩), .int .i64 wk, wv s] w (WS B g gl cap c (ay c wk a L x).a (ay c wk a L x).L (ay c wk a L x).x true w) := by
 have e : ay c wk a L x = fol (bE (aU c a L x.p).fin x) bG (bS 5) := dS
 rw [e]
 refine aV (NP := (npB 170 5 32)) M wk s x (hx.mono aj) h hgv hln (aK _ _) aX bR bJ rlF_22 Tryz.call163 (bE (aU c a L x.p).fin x) (Lib.hid ?_) bG (bS 5) Tryz.call138 (fun _ => Lib.hid ?_) ?_
 ·exact qa3f
 ·exact qa3g
 ·exact qa3h
theorem rlF_40 : RG false 40 163 (dw (fnV 148) 193) 138 fA (npB 170 5 32) := qa3e
theorem wlF_40 {B : Nat} {w : World} {g gl cap : Nat} {c : Cfg} {a : Acc} {L : List Int} (M : aC B w g c a gl cap L) (hf : c.Wf) (hb : 1 ≤ c.bl ∧ c.bl ≤ 100) (hm : L.length ≤ 1000) (hL : WR L) (wk : Int) (s : Wk) (x : St) (hx : Few 200 x) (h : aP w s x) (hp : PR x.p) (hgv : x.p.gv = false) (hln : x.p.ln = 40) :
  Calls Tryz.prog 55 #[.pointer (some ⟨g, 0, none⟩), .int .i64 wk, wv s] w (WS B g gl cap c (ay c wk a L x).a (ay c wk a L x).L (ay c wk a L x).x true w) := by
 have e : ay c wk a L x = fol (bE (aU c a L x.p).fin x) bG (bS 5) := dS
 rw [e]
 refine aV (NP := (npB 170 5 32)) M wk s x (hx.mono aj) h hgv hln (aK _ _) aX bR bJ rlF_40 Tryz.call163 (bE (aU c a L x.p).fin x) (Lib.hid ?_) bG (bS 5) Tryz.call138 (fun _ => Lib.hid ?_) ?_
 ·exact qa3f
 ·exact qa3g
 ·exact qa3h
theorem rlF_41 : RG false 41 163 (dw (fnV 148) 193) 138 fA (npB 170 5 32) := qa3e
theorem wlF_41 {B : Nat} {w : World} {g gl cap : Nat} {c : Cfg} {a : Acc} {L : List Int} (M : aC B w g c a gl cap L) (hf : c.Wf) (hb : 1 ≤ c.bl ∧ c.bl ≤ 100) (hm : L.length ≤ 1000) (hL : WR L) (wk : Int) (s : Wk) (x : St) (hx : Few 200 x) (h : aP w s x) (hp : PR x.p) (hgv : x.p.gv = false) (hln : x.p.ln = 41) :
  Calls Tryz.prog 55 #[.pointer (some ⟨g, 0, none⟩), .int .i64 wk, wv s] w (WS B g gl cap c (ay c wk a L x).a (ay c wk a L x).L (ay c wk a L x).x true w) := by
 have e : ay c wk a L x = fol (bE (aU c a L x.p).fin x) bG (bS 5) := dS
 rw [e]
 refine aV (NP := (npB 170 5 32)) M wk s x (hx.mono aj) h hgv hln (aK _ _) aX bR bJ rlF_41 Tryz.call163 (bE (aU c a L x.p).fin x) (Lib.hid ?_) bG (bS 5) Tryz.call138 (fun _ => Lib.hid ?_) ?_
 ·exact qa3f
 ·exact qa3g
 ·exact qa3h
end Go.Proofs.YtaiodbcnbcdokaaGreat.Me
end
section
namespace Go.Proofs.YtaiodbcnbcdokaaGreat.Me
open Go Go.RowKit Go.ChangeMaps Gro Own Wd Ap Go.Proofs.YtaiodbcnbcdokaaGreat.Pl Wo Mr
def lineF (k : Int) : Prop := k = 1 ∨ k = 2 ∨ k = 3 ∨ k = 90 ∨ k = 70 ∨ k = 71 ∨ k = 72 ∨ k = 73 ∨ k = 36 ∨ k = 37 ∨ k = 10 ∨ k = 11 ∨ k = 12 ∨ k = 30 ∨ k = 31 ∨ k = 32 ∨ k = 33 ∨ k = 34 ∨ k = 35 ∨ k = 38 ∨ k = 20 ∨ k = 21 ∨ k = 22 ∨ k = 40 ∨ k = 41 ∨ k = 23 ∨ k = 24 ∨ k = 25 ∨ k = 42 ∨ k = 43 ∨ k = 44 ∨ k = 45 ∨ k = 46 ∨ k = 60 ∨ k = 50 ∨ k = 61 ∨ k = 62
def lineT (k : Int) : Prop := k = 13 ∨ k = 14 ∨ k = 15 ∨ k = 30 ∨ k = 31 ∨ k = 32 ∨ k = 39
theorem workStepAny {B : Nat} {w : World} {g gl cap : Nat} {c : Cfg} {a : Acc} {L : List Int} (M : aC B w g c a gl cap L) (hf : c.Wf) (hb : 1 ≤ c.bl ∧ c.bl ≤ 100) (hm : L.length ≤ 1000) (hL : WR L) (wk : Int) (s : Wk) (x : St) (hx : Few 200 x) (h : aP w s x) (hp : PR x.p) (hv : (x.p.gv = false ∧ lineF x.p.ln) ∨ (x.p.gv = true ∧ lineT x.p.ln)) :
  Calls Tryz.prog 55 #[.pointer (some ⟨g, 0, none⟩), .int .i64 wk, wv s] w (WS B g gl cap c (ay c wk a L x).a (ay c wk a L x).L (ay c wk a L x).x true w) := by
 rcases hv with ⟨hgv, hl⟩ | ⟨hgv, hl⟩
 ·rcases hl with hl | hl | hl | hl | hl | hl | hl | hl | hl | hl | hl | hl | hl | hl | hl | hl | hl | hl | hl | hl | hl | hl | hl | hl | hl | hl | hl | hl | hl | hl | hl | hl | hl | hl | hl | hl | hl
  ·exact wlF_1 M hf hb hm hL wk s x hx h hp hgv hl
  ·exact wlF_2 M hf hb hm hL wk s x hx h hp hgv hl
  ·exact wlF_3 M hf hb hm hL wk s x hx h hp hgv hl
  ·exact wlF_90 M hf hb hm hL wk s x hx h hp hgv hl
  ·exact wlF_70 M hf hb hm hL wk s x hx h hp hgv hl
  ·exact wlF_71 M hf hb hm hL wk s x hx h hp hgv hl
  ·exact wlF_72 M hf hb hm hL wk s x hx h hp hgv hl
  ·exact wlF_73 M hf hb hm hL wk s x hx h hp hgv hl
  ·exact wlF_36 M hf hb hm hL wk s x hx h hp hgv hl
  ·exact wlF_37 M hf hb hm hL wk s x hx h hp hgv hl
  ·exact wlF_10 M hf hb hm hL wk s x hx h hp hgv hl
  ·exact wlF_11 M hf hb hm hL wk s x hx h hp hgv hl
  ·exact wlF_12 M hf hb hm hL wk s x hx h hp hgv hl
  ·exact wlF_30 M hf hb hm hL wk s x hx h hp hgv hl
  ·exact wlF_31 M hf hb hm hL wk s x hx h hp hgv hl
  ·exact wlF_32 M hf hb hm hL wk s x hx h hp hgv hl
  ·exact wlF_33 M hf hb hm hL wk s x hx h hp hgv hl
  ·exact wlF_34 M hf hb hm hL wk s x hx h hp hgv hl
  ·exact wlF_35 M hf hb hm hL wk s x hx h hp hgv hl
  ·exact wlF_38 M hf hb hm hL wk s x hx h hp hgv hl
  ·exact wlF_20 M hf hb hm hL wk s x hx h hp hgv hl
  ·exact wlF_21 M hf hb hm hL wk s x hx h hp hgv hl
  ·exact wlF_22 M hf hb hm hL wk s x hx h hp hgv hl
  ·exact wlF_40 M hf hb hm hL wk s x hx h hp hgv hl
  ·exact wlF_41 M hf hb hm hL wk s x hx h hp hgv hl
  ·exact wlF_23 M hf hb hm hL wk s x hx h hp hgv hl
  ·exact wlF_24 M hf hb hm hL wk s x hx h hp hgv hl
  ·exact wlF_25 M hf hb hm hL wk s x hx h hp hgv hl
  ·exact wlF_42 M hf hb hm hL wk s x hx h hp hgv hl
  ·exact wlF_43 M hf hb hm hL wk s x hx h hp hgv hl
  ·exact wlF_44 M hf hb hm hL wk s x hx h hp hgv hl
  ·exact wlF_45 M hf hb hm hL wk s x hx h hp hgv hl
  ·exact wlF_46 M hf hb hm hL wk s x hx h hp hgv hl
  ·exact wlF_60 M hf hb hm hL wk s x hx h hp hgv hl
  ·exact wlF_50 M hf hb hm hL wk s x hx h hp hgv hl
  ·exact wlF_61 M hf hb hm hL wk s x hx h hp hgv hl
  ·exact wlF_62 M hf hb hm hL wk s x hx h hp hgv hl
 ·rcases hl with hl | hl | hl | hl | hl | hl | hl
  ·exact wlT_13 M hf hb hm hL wk s x hx h hp hgv hl
  ·exact wlT_14 M hf hb hm hL wk s x hx h hp hgv hl
  ·exact wlT_15 M hf hb hm hL wk s x hx h hp hgv hl
  ·exact wlT_30 M hf hb hm hL wk s x hx h hp hgv hl
  ·exact wlT_31 M hf hb hm hL wk s x hx h hp hgv hl
  ·exact wlT_32 M hf hb hm hL wk s x hx h hp hgv hl
  ·exact wlT_39 M hf hb hm hL wk s x hx h hp hgv hl
end Go.Proofs.YtaiodbcnbcdokaaGreat.Me
end
section
namespace Go.Proofs.YtaiodbcnbcdokaaGreat.Ha
open Go Go.RowKit Go.ChangeMaps Gro Own Wd Ap Go.Proofs.YtaiodbcnbcdokaaGreat.Pl Wo Me Shp Opn
def evE (tk : Int) (wk : Int) (bg : Int) (p : Pl) (kd : Int) : Ev := ⟨tk, wk, wrap64 (bg - 1), kd, p.o0, p.o1, p.o2, p.o3, p.o4, p.o5, p.o6, p.t, p.rt, aG, 0, 0, 0, 0, 0, 0⟩
def isPt (p q : Pl) : Bool :=
 if p.rt = 0 ∧ q.rt ≠ 0 then true
 else if p.ln = 3 then q.pn && !p.pn
 else if p.ln = 90 then decide (p.o0 = 2)
 else if p.ln = 60 then decide (q.ln = 61)
 else if p.ln = 62 then decide (p.j = 0)
 else if p.ln = 37 then decide (q.ln = 0)
 else if p.ln = 43 ∨ p.ln = 45 then decide (q.ln ≠ wrap64 (p.ln - 1))
 else decide (p.ln = 41) || decide (p.ln = 73)
def fH (ws : List WkD) (o : OpD) : Int :=
 if o.u = false then o.t else if o.b < 0 ∨ (ws.length : Int) ≤ o.b then 0
 else match ws[o.b.toNat]? with
  | some d => if o.n < 0 ∨ (d.told.length : Int) ≤ o.n then 0 else d.told.getD o.n.toNat 0
  | none => 0
def endF (tk : Int) (i : Nat) (d : WkD) (H : HD) : HD :=
 { H with ev := H.ev ++ [⟨evE tk i d.bg d.st.p 4, d.st.rd⟩], ws := H.ws.set i (if d.st.p.o0 = 3 ∧ d.st.p.rt = 0 then { d with told := d.told ++ [d.st.p.t] } else d) }
def startF (c : Cfg) (i : Nat) (d : WkD) (o : OpD) (H : HD) : HD :=
 let d1 : WkD := { d with bg := d.bg + 1, st := beginS c d.st o.k o.t o.x o.s o.u o.b o.n (fH H.ws o) }
 let H1 : HD := { H with ev := H.ev ++ [⟨{ evE H.tk i d1.bg d1.st.p 1 with rt := 0 }, []⟩], ws := H.ws.set i d1 }
 if d1.st.p.ln = 0 then endF H.tk i d1 { H1 with ev := H1.ev ++ [⟨evE H.tk i d1.bg d1.st.p 3, []⟩] } else H1
def stepF (c : Cfg) (i : Nat) (d : WkD) (H : HD) : HD :=
 let r := ay c i H.a H.L d.st
 let d1 : WkD := { d with st := r.x }
 let H1 : HD := { H with a := r.a, L := r.L, ev := H.ev ++ [⟨{ evE H.tk i d1.bg d1.st.p 2 with ln := d.st.p.ln, ak := r.a.kd, at_ := r.a.at_, x := r.a.x, y := r.a.y, old := r.a.old }, []⟩], ws := H.ws.set i d1 }
 let H2 : HD := if isPt d.st.p d1.st.p = true then { H1 with ev := H1.ev ++ [⟨evE H.tk i d1.bg d1.st.p 3, []⟩] } else H1
 if d1.st.p.ln = 0 then endF H.tk i d1 H2 else H2
def pickF (c : Cfg) (H : HD) (k : Int) : HD :=
 let H1 : HD := { H with tk := H.tk + 1 }
 if k < 0 then H1 else match H.ws[k.toNat]? with
  | none => H1
  | some d => if d.st.p.ln ≠ 0 then stepF c k.toNat d H1 else match d.prog[d.bg]? with
   | some o => startF c k.toNat d o H1
   | none => H1
def runF (c : Cfg) (H : HD) (ks : List Int) : HD := ks.foldl (pickF c) H
end Go.Proofs.YtaiodbcnbcdokaaGreat.Ha
end
