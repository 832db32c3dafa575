/- Part WorkLnD. -/
import Derived.Test.YtaiodbcnbcdokaaGreatKWorkLnA
set_option linter.unusedVariables false
set_option linter.unusedSimpArgs false
set_option linter.unusedSectionVars false
set_option maxRecDepth 100000
set_option maxHeartbeats 16000000
namespace Go.Proofs.YtaiodbcnbcdokaaGreat.Me
open Go Go.RowKit Go.ChangeMaps Gro Own Wd Ap Go.Proofs.YtaiodbcnbcdokaaGreat.Pl Wo Mr
theorem rlF_23 : RG false 23 163 (dw (fnV 148) 193) 138 fA eu := qa3i
theorem wlF_23 {B : Nat} {w : World} {g gl cap : Nat} {c : Cfg} {a : Acc} {L : List Int} (M : aC B w g c a gl cap L) (hf : c.Wf) (hb : 1 ≤ c.bl ∧ c.bl ≤ 100) (hm : L.length ≤ 1000) (hL : WR L) (wk : Int) (s : Wk) (x : St) (hx : Few 200 x) (h : aP w s x) (hp : PR x.p) (hgv : x.p.gv = false) (hln : x.p.ln = 23) :
  Calls Tryz.prog 55 #[.pointer (some ⟨g, 0, none⟩), .int .i64 wk, wv s] w (WS B g gl cap c (ay c wk a L x).a (ay c wk a L x).L (ay c wk a L x).x true w) := by
 have e : ay c wk a L x = fol (bE (aU c a L x.p).fin x) bG id := dS
 rw [e]
 refine aV (NP := eu) M wk s x (hx.mono aj) h hgv hln (aK _ _) aX (fun h _ => h) (fun h _ _ _ => h) rlF_23 Tryz.call163 (bE (aU c a L x.p).fin x) (Lib.hid ?_) bG id Tryz.call138 (fun _ => Lib.hid ?_) ?_
 ·exact qa3f
 ·exact qa3g
 ·exact qa3j
theorem rlF_24 : RG false 24 163 (dw (fnV 148) 193) 138 fA eu := qa3i
theorem wlF_24 {B : Nat} {w : World} {g gl cap : Nat} {c : Cfg} {a : Acc} {L : List Int} (M : aC B w g c a gl cap L) (hf : c.Wf) (hb : 1 ≤ c.bl ∧ c.bl ≤ 100) (hm : L.length ≤ 1000) (hL : WR L) (wk : Int) (s : Wk) (x : St) (hx : Few 200 x) (h : aP w s x) (hp : PR x.p) (hgv : x.p.gv = false) (hln : x.p.ln = 24) :
  Calls Tryz.prog 55 #[.pointer (some ⟨g, 0, none⟩), .int .i64 wk, wv s] w (WS B g gl cap c (ay c wk a L x).a (ay c wk a L x).L (ay c wk a L x).x true w) := by
 have e : ay c wk a L x = fol (bE (aU c a L x.p).fin x) bG id := dS
 rw [e]
 refine aV (NP := eu) M wk s x (hx.mono aj) h hgv hln (aK _ _) aX (fun h _ => h) (fun h _ _ _ => h) rlF_24 Tryz.call163 (bE (aU c a L x.p).fin x) (Lib.hid ?_) bG id Tryz.call138 (fun _ => Lib.hid ?_) ?_
 ·exact qa3f
 ·exact qa3g
 ·exact qa3j
theorem rlF_25 : RG false 25 163 (dw (fnV 148) 193) 138 fA eu := qa3i
theorem wlF_25 {B : Nat} {w : World} {g gl cap : Nat} {c : Cfg} {a : Acc} {L : List Int} (M : aC B w g c a gl cap L) (hf : c.Wf) (hb : 1 ≤ c.bl ∧ c.bl ≤ 100) (hm : L.length ≤ 1000) (hL : WR L) (wk : Int) (s : Wk) (x : St) (hx : Few 200 x) (h : aP w s x) (hp : PR x.p) (hgv : x.p.gv = false) (hln : x.p.ln = 25) :
  Calls Tryz.prog 55 #[.pointer (some ⟨g, 0, none⟩), .int .i64 wk, wv s] w (WS B g gl cap c (ay c wk a L x).a (ay c wk a L x).L (ay c wk a L x).x true w) := by
 have e : ay c wk a L x = fol (bE (aU c a L x.p).fin x) bG id := dS
 rw [e]
 refine aV (NP := eu) M wk s x (hx.mono aj) h hgv hln (aK _ _) aX (fun h _ => h) (fun h _ _ _ => h) rlF_25 Tryz.call163 (bE (aU c a L x.p).fin x) (Lib.hid ?_) bG id Tryz.call138 (fun _ => Lib.hid ?_) ?_
 ·exact qa3f
 ·exact qa3g
 ·exact qa3j
theorem rlF_42 : RG false 42 163 (dw (fnV 148) 193) 173 (dw (.int .i64 43) 3) (npB 170 7 32) := by
 intro w
 refine (fG w).mono ?_
 rintro e w' ⟨b, rfl, ⟨t1, t2, s1, e1, e2, k1, f50, x5, n1, x7, y5, r43, r45, f61, t0, MM, Bt1, Bt2, Bs1, Be1, Be2, Bk1, Bf50, Bx5, Bn1, Bx7, By5, Br43, Br45, Bf61, Bt0⟩, hb, hbl⟩
 exact ⟨b, _, #[.pointer (some ⟨n1, 0, none⟩)], #[.pointer (some ⟨r43, 0, none⟩)], (aO 170 x7), rfl, MM, by kernel_rfl, ⟨n1, rfl, Bn1⟩, ⟨r43, rfl, Br43⟩, ⟨_, rfl, ⟨x7, rfl, Bx7⟩⟩, rfl, hbl⟩
theorem wlF_42 {B : Nat} {w : World} {g gl cap : Nat} {c : Cfg} {a : Acc} {L : List Int} (M : aC B w g c a gl cap L) (hf : c.Wf) (hb : 1 ≤ c.bl ∧ c.bl ≤ 100) (hm : L.length ≤ 1000) (hL : WR L) (wk : Int) (s : Wk) (x : St) (hx : Few 200 x) (h : aP w s x) (hp : PR x.p) (hgv : x.p.gv = false) (hln : x.p.ln = 42) :
  Calls Tryz.prog 55 #[.pointer (some ⟨g, 0, none⟩), .int .i64 wk, wv s] w (WS B g gl cap c (ay c wk a L x).a (ay c wk a L x).L (ay c wk a L x).x true w) := by
 have e : ay c wk a L x = fol (bE (aU c a L x.p).fin x) (roomS c 43) (bS 7) := dS
 rw [e]
 refine aV (NP := (npB 170 7 32)) M wk s x (hx.mono aj) h hgv hln (aK _ _) (aK _ _) bR bJ rlF_42 Tryz.call163 (bE (aU c a L x.p).fin x) (Lib.hid ?_) (roomS c 43) (bS 7) Tryz.call173 (fun _ => Lib.hid ?_) ?_
 ·exact qa3f
 ·exact qa3k
 ·exact qa3l
theorem rlF_43 : RG false 43 163 (dw (fnV 148) 193) 150 fA eu := qa3i
theorem wlF_43 {B : Nat} {w : World} {g gl cap : Nat} {c : Cfg} {a : Acc} {L : List Int} (M : aC B w g c a gl cap L) (hf : c.Wf) (hb : 1 ≤ c.bl ∧ c.bl ≤ 100) (hm : L.length ≤ 1000) (hL : WR L) (wk : Int) (s : Wk) (x : St) (hx : Few 200 x) (h : aP w s x) (hp : PR x.p) (hgv : x.p.gv = false) (hln : x.p.ln = 43) :
  Calls Tryz.prog 55 #[.pointer (some ⟨g, 0, none⟩), .int .i64 wk, wv s] w (WS B g gl cap c (ay c wk a L x).a (ay c wk a L x).L (ay c wk a L x).x true w) := by
 have e : ay c wk a L x = fol (bE (aU c a L x.p).fin x) (freedS c) id := dS
 rw [e]
 refine aV (NP := eu) M wk s x (hx.mono aj) h hgv hln (aK _ _) aX (fun h _ => h) (fun h _ _ _ => h) rlF_43 Tryz.call163 (bE (aU c a L x.p).fin x) (Lib.hid ?_) (freedS c) id Tryz.call150 (fun _ => Lib.hid ?_) ?_
 ·exact qa3f
 ·intro P B1 w1 s1 gc hP A1 hgc
  obtain rfl : gc = #[] := hgc
  exact fFreed c hP A1 ((gH hx _).mono aj) (few_retire (gH hx _))
 ·intro h2
  exact absurd h2 (by exact way_en aj)
theorem rlF_44 : RG false 44 163 (dw (fnV 148) 193) 173 (dw (.int .i64 45) 3) (npB 170 7 32) := by
 intro w
 refine (fG w).mono ?_
 rintro e w' ⟨b, rfl, ⟨t1, t2, s1, e1, e2, k1, f50, x5, n1, x7, y5, r43, r45, f61, t0, MM, Bt1, Bt2, Bs1, Be1, Be2, Bk1, Bf50, Bx5, Bn1, Bx7, By5, Br43, Br45, Bf61, Bt0⟩, hb, hbl⟩
 exact ⟨b, _, #[.pointer (some ⟨n1, 0, none⟩)], #[.pointer (some ⟨r45, 0, none⟩)], (aO 170 x7), rfl, MM, by kernel_rfl, ⟨n1, rfl, Bn1⟩, ⟨r45, rfl, Br45⟩, ⟨_, rfl, ⟨x7, rfl, Bx7⟩⟩, rfl, hbl⟩
theorem wlF_44 {B : Nat} {w : World} {g gl cap : Nat} {c : Cfg} {a : Acc} {L : List Int} (M : aC B w g c a gl cap L) (hf : c.Wf) (hb : 1 ≤ c.bl ∧ c.bl ≤ 100) (hm : L.length ≤ 1000) (hL : WR L) (wk : Int) (s : Wk) (x : St) (hx : Few 200 x) (h : aP w s x) (hp : PR x.p) (hgv : x.p.gv = false) (hln : x.p.ln = 44) :
  Calls Tryz.prog 55 #[.pointer (some ⟨g, 0, none⟩), .int .i64 wk, wv s] w (WS B g gl cap c (ay c wk a L x).a (ay c wk a L x).L (ay c wk a L x).x true w) := by
 have e : ay c wk a L x = fol (bE (aU c a L x.p).fin x) (roomS c 45) (bS 7) := dS
 rw [e]
 refine aV (NP := (npB 170 7 32)) M wk s x (hx.mono aj) h hgv hln (aK _ _) (aK _ _) bR bJ rlF_44 Tryz.call163 (bE (aU c a L x.p).fin x) (Lib.hid ?_) (roomS c 45) (bS 7) Tryz.call173 (fun _ => Lib.hid ?_) ?_
 ·exact qa3f
 ·exact qa3k
 ·exact qa3l
theorem rlF_45 : RG false 45 163 (dw (fnV 148) 193) 151 fA eu := qa3i
theorem wlF_45 {B : Nat} {w : World} {g gl cap : Nat} {c : Cfg} {a : Acc} {L : List Int} (M : aC B w g c a gl cap L) (hf : c.Wf) (hb : 1 ≤ c.bl ∧ c.bl ≤ 100) (hm : L.length ≤ 1000) (hL : WR L) (wk : Int) (s : Wk) (x : St) (hx : Few 200 x) (h : aP w s x) (hp : PR x.p) (hgv : x.p.gv = false) (hln : x.p.ln = 45) :
  Calls Tryz.prog 55 #[.pointer (some ⟨g, 0, none⟩), .int .i64 wk, wv s] w (WS B g gl cap c (ay c wk a L x).a (ay c wk a L x).L (ay c wk a L x).x true w) := by
 have e : ay c wk a L x = fol (bE (aU c a L x.p).fin x) (writtenS c) id := dS
 rw [e]
 refine aV (NP := eu) M wk s x (hx.mono aj) h hgv hln (aK _ _) aX (fun h _ => h) (fun h _ _ _ => h) rlF_45 Tryz.call163 (bE (aU c a L x.p).fin x) (Lib.hid ?_) (writtenS c) id Tryz.call151 (fun _ => Lib.hid ?_) ?_
 ·exact qa3f
 ·intro P B1 w1 s1 gc hP A1 hgc
  obtain rfl : gc = #[] := hgc
  exact fWritten c hP A1 ((gH hx _).mono aj) (few_retire (gH hx _))
 ·intro h2
  exact absurd h2 (by exact way_en aj)
theorem rlF_46 : RG false 46 163 (dw (fnV 148) 193) 152 fA (npB 170 7 32) := by
 intro w
 refine (fG w).mono ?_
 rintro e w' ⟨b, rfl, ⟨t1, t2, s1, e1, e2, k1, f50, x5, n1, x7, y5, r43, r45, f61, t0, MM, Bt1, Bt2, Bs1, Be1, Be2, Bk1, Bf50, Bx5, Bn1, Bx7, By5, Br43, Br45, Bf61, Bt0⟩, hb, hbl⟩
 exact ⟨b, _, #[.pointer (some ⟨n1, 0, none⟩)], #[], (aO 170 x7), rfl, MM, by kernel_rfl, ⟨n1, rfl, Bn1⟩, rfl, ⟨_, rfl, ⟨x7, rfl, Bx7⟩⟩, rfl, hbl⟩
theorem wlF_46 {B : Nat} {w : World} {g gl cap : Nat} {c : Cfg} {a : Acc} {L : List Int} (M : aC B w g c a gl cap L) (hf : c.Wf) (hb : 1 ≤ c.bl ∧ c.bl ≤ 100) (hm : L.length ≤ 1000) (hL : WR L) (wk : Int) (s : Wk) (x : St) (hx : Few 200 x) (h : aP w s x) (hp : PR x.p) (hgv : x.p.gv = false) (hln : x.p.ln = 46) :
  Calls Tryz.prog 55 #[.pointer (some ⟨g, 0, none⟩), .int .i64 wk, wv s] w (WS B g gl cap c (ay c wk a L x).a (ay c wk a L x).L (ay c wk a L x).x true w) := by
 have e : ay c wk a L x = fol (bE (aU c a L x.p).fin x) tkS (bS 7) := dS
 rw [e]
 refine aV (NP := (npB 170 7 32)) M wk s x (hx.mono aj) h hgv hln (aK _ _) aX bR bJ rlF_46 Tryz.call163 (bE (aU c a L x.p).fin x) (Lib.hid ?_) tkS (bS 7) Tryz.call152 (fun _ => Lib.hid ?_) ?_
 ·exact qa3f
 ·intro P B1 w1 s1 gc hP A1 hgc
  obtain rfl : gc = #[] := hgc
  exact fTakeW c hP A1 ((gH hx _).mono aj)
 ·exact qa3l
theorem rlF_60 : RG false 60 163 (dw (fnV 148) 193) 169 (dw (.int .i64 61) 3) (npB 170 7 32) := by
 intro w
 refine (fG w).mono ?_
 rintro e w' ⟨b, rfl, ⟨t1, t2, s1, e1, e2, k1, f50, x5, n1, x7, y5, r43, r45, f61, t0, MM, Bt1, Bt2, Bs1, Be1, Be2, Bk1, Bf50, Bx5, Bn1, Bx7, By5, Br43, Br45, Bf61, Bt0⟩, hb, hbl⟩
 exact ⟨b, _, #[.pointer (some ⟨n1, 0, none⟩)], #[.pointer (some ⟨f61, 0, none⟩)], (aO 170 x7), rfl, MM, by kernel_rfl, ⟨n1, rfl, Bn1⟩, ⟨f61, rfl, Bf61⟩, ⟨_, rfl, ⟨x7, rfl, Bx7⟩⟩, rfl, hbl⟩
theorem wlF_60 {B : Nat} {w : World} {g gl cap : Nat} {c : Cfg} {a : Acc} {L : List Int} (M : aC B w g c a gl cap L) (hf : c.Wf) (hb : 1 ≤ c.bl ∧ c.bl ≤ 100) (hm : L.length ≤ 1000) (hL : WR L) (wk : Int) (s : Wk) (x : St) (hx : Few 200 x) (h : aP w s x) (hp : PR x.p) (hgv : x.p.gv = false) (hln : x.p.ln = 60) :
  Calls Tryz.prog 55 #[.pointer (some ⟨g, 0, none⟩), .int .i64 wk, wv s] w (WS B g gl cap c (ay c wk a L x).a (ay c wk a L x).L (ay c wk a L x).x true w) := by
 have e : ay c wk a L x = fol (bE (aU c a L x.p).fin x) (dK 61) (bS 7) := dS
 rw [e]
 refine aV (NP := (npB 170 7 32)) M wk s x (hx.mono aj) h hgv hln (aK _ _) (aK _ _) bR bJ rlF_60 Tryz.call163 (bE (aU c a L x.p).fin x) (Lib.hid ?_) (dK 61) (bS 7) Tryz.call169 (fun _ => Lib.hid ?_) ?_
 ·exact qa3f
 ·exact qa3c
 ·exact qa3l
theorem rlF_50 : RG false 50 154 fA 155 fA eu := qa30
theorem wlF_50 {B : Nat} {w : World} {g gl cap : Nat} {c : Cfg} {a : Acc} {L : List Int} (M : aC B w g c a gl cap L) (hf : c.Wf) (hb : 1 ≤ c.bl ∧ c.bl ≤ 100) (hm : L.length ≤ 1000) (hL : WR L) (wk : Int) (s : Wk) (x : St) (hx : Few 200 x) (h : aP w s x) (hp : PR x.p) (hgv : x.p.gv = false) (hln : x.p.ln = 50) :
  Calls Tryz.prog 55 #[.pointer (some ⟨g, 0, none⟩), .int .i64 wk, wv s] w (WS B g gl cap c (ay c wk a L x).a (ay c wk a L x).L (ay c wk a L x).x true w) := by
 have e : ay c wk a L x = fol (fillR c a L x) filledS id := dS
 rw [e]
 refine aV (NP := eu) M wk s x (hx.mono aj) h hgv hln aX aX (fun h _ => h) (fun h _ _ _ => h) rlF_50 Tryz.call154 (fillR c a L x) (Lib.hid ?_) filledS id Tryz.call155 (fun _ => Lib.hid ?_) ?_
 ·intro P B1 w1 s1 sc hP hG M1 A1 hcp hsc
  obtain rfl : sc = #[] := hsc
  exact fFill M1 hf hm s1 x hP hG A1 wk
 ·intro P B1 w1 s1 gc hP A1 hgc
  obtain rfl : gc = #[] := hgc
  exact fFilled c hP A1
 ·exact qa3m
theorem rlF_61 : RG false 61 156 fA 157 fA eu := qa30
theorem wlF_61 {B : Nat} {w : World} {g gl cap : Nat} {c : Cfg} {a : Acc} {L : List Int} (M : aC B w g c a gl cap L) (hf : c.Wf) (hb : 1 ≤ c.bl ∧ c.bl ≤ 100) (hm : L.length ≤ 1000) (hL : WR L) (wk : Int) (s : Wk) (x : St) (hx : Few 200 x) (h : aP w s x) (hp : PR x.p) (hgv : x.p.gv = false) (hln : x.p.ln = 61) :
  Calls Tryz.prog 55 #[.pointer (some ⟨g, 0, none⟩), .int .i64 wk, wv s] w (WS B g gl cap c (ay c wk a L x).a (ay c wk a L x).L (ay c wk a L x).x true w) := by
 have e : ay c wk a L x = fol (jE c a L x x.p.c) borrowS id := dS
 rw [e]
 refine aV (NP := eu) M wk s x (hx.mono aj) h hgv hln aX aX (fun h _ => h) (fun h _ _ _ => h) rlF_61 Tryz.call156 (jE c a L x x.p.c) (Lib.hid ?_) borrowS id Tryz.call157 (fun _ => Lib.hid ?_) ?_
 ·intro P B1 w1 s1 sc hP hG M1 A1 hcp hsc
  obtain rfl : sc = #[] := hsc
  exact fReadE M1 hf hm s1 x (hx.mono aj) hP hG A1 hcp wk
 ·intro P B1 w1 s1 gc hP A1 hgc
  obtain rfl : gc = #[] := hgc
  exact fBorrow c hP A1 ((few_read hx).mono aj)
 ·exact qa3m
theorem rlF_62 : RG false 62 158 fA 160 (dw (.int .i64 0) 3) eu := by
 intro w
 refine (fG w).mono ?_
 rintro e w' ⟨b, rfl, ⟨t1, t2, s1, e1, e2, k1, f50, x5, n1, x7, y5, r43, r45, f61, t0, MM, Bt1, Bt2, Bs1, Be1, Be2, Bk1, Bf50, Bx5, Bn1, Bx7, By5, Br43, Br45, Bf61, Bt0⟩, hb, hbl⟩
 exact ⟨b, _, #[], #[.pointer (some ⟨t0, 0, none⟩)], .nilFunc, rfl, MM, by kernel_rfl, rfl, ⟨t0, rfl, Bt0⟩, trivial, rfl, hbl⟩
theorem wlF_62 {B : Nat} {w : World} {g gl cap : Nat} {c : Cfg} {a : Acc} {L : List Int} (M : aC B w g c a gl cap L) (hf : c.Wf) (hb : 1 ≤ c.bl ∧ c.bl ≤ 100) (hm : L.length ≤ 1000) (hL : WR L) (wk : Int) (s : Wk) (x : St) (hx : Few 200 x) (h : aP w s x) (hp : PR x.p) (hgv : x.p.gv = false) (hln : x.p.ln = 62) :
  Calls Tryz.prog 55 #[.pointer (some ⟨g, 0, none⟩), .int .i64 wk, wv s] w (WS B g gl cap c (ay c wk a L x).a (ay c wk a L x).L (ay c wk a L x).x true w) := by
 have e : ay c wk a L x = fol (jE c a L x x.p.br) (fun y => atS y 0) id := dS
 rw [e]
 refine aV (NP := eu) M wk s x (hx.mono aj) h hgv hln aX (aK _ _) (fun h _ => h) (fun h _ _ _ => h) rlF_62 Tryz.call158 (jE c a L x x.p.br) (Lib.hid ?_) (fun y => atS y 0) id Tryz.call160 (fun _ => Lib.hid ?_) ?_
 ·intro P B1 w1 s1 sc hP hG M1 A1 hcp hsc
  obtain rfl : sc = #[] := hsc
  exact fReadB M1 hf hm s1 x (hx.mono aj) hP hG A1 hcp wk
 ·exact qa35
 ·exact qa3m
theorem rlT_13 : RG true 13 163 (dw (fnV 144) 193) 142 fA eu := qa3n
theorem wlT_13 {B : Nat} {w : World} {g gl cap : Nat} {c : Cfg} {a : Acc} {L : List Int} (M : aC B w g c a gl cap L) (hf : c.Wf) (hb : 1 ≤ c.bl ∧ c.bl ≤ 100) (hm : L.length ≤ 1000) (hL : WR L) (wk : Int) (s : Wk) (x : St) (hx : Few 200 x) (h : aP w s x) (hp : PR x.p) (hgv : x.p.gv = true) (hln : x.p.ln = 13) :
  Calls Tryz.prog 55 #[.pointer (some ⟨g, 0, none⟩), .int .i64 wk, wv s] w (WS B g gl cap c (ay c wk a L x).a (ay c wk a L x).L (ay c wk a L x).x true w) := by
 have e : ay c wk a L x = fol (dV c a L x) bW id := dS
 rw [e]
 refine aV (NP := eu) M wk s x (hx.mono aj) h hgv hln (aK _ _) aX (fun h _ => h) (fun h _ _ _ => h) rlT_13 Tryz.call163 (dV c a L x) (Lib.hid ?_) bW id Tryz.call142 (fun _ => Lib.hid ?_) ?_
 ·exact qa3o
 ·exact qa3p
 ·exact qa3q
theorem rlT_14 : RG true 14 163 (dw (fnV 144) 193) 142 fA eu := qa3n
theorem wlT_14 {B : Nat} {w : World} {g gl cap : Nat} {c : Cfg} {a : Acc} {L : List Int} (M : aC B w g c a gl cap L) (hf : c.Wf) (hb : 1 ≤ c.bl ∧ c.bl ≤ 100) (hm : L.length ≤ 1000) (hL : WR L) (wk : Int) (s : Wk) (x : St) (hx : Few 200 x) (h : aP w s x) (hp : PR x.p) (hgv : x.p.gv = true) (hln : x.p.ln = 14) :
  Calls Tryz.prog 55 #[.pointer (some ⟨g, 0, none⟩), .int .i64 wk, wv s] w (WS B g gl cap c (ay c wk a L x).a (ay c wk a L x).L (ay c wk a L x).x true w) := by
 have e : ay c wk a L x = fol (dV c a L x) bW id := dS
 rw [e]
 refine aV (NP := eu) M wk s x (hx.mono aj) h hgv hln (aK _ _) aX (fun h _ => h) (fun h _ _ _ => h) rlT_14 Tryz.call163 (dV c a L x) (Lib.hid ?_) bW id Tryz.call142 (fun _ => Lib.hid ?_) ?_
 ·exact qa3o
 ·exact qa3p
 ·exact qa3q
theorem rlT_15 : RG true 15 163 (dw (fnV 144) 193) 142 fA eu := qa3n
theorem wlT_15 {B : Nat} {w : World} {g gl cap : Nat} {c : Cfg} {a : Acc} {L : List Int} (M : aC B w g c a gl cap L) (hf : c.Wf) (hb : 1 ≤ c.bl ∧ c.bl ≤ 100) (hm : L.length ≤ 1000) (hL : WR L) (wk : Int) (s : Wk) (x : St) (hx : Few 200 x) (h : aP w s x) (hp : PR x.p) (hgv : x.p.gv = true) (hln : x.p.ln = 15) :
  Calls Tryz.prog 55 #[.pointer (some ⟨g, 0, none⟩), .int .i64 wk, wv s] w (WS B g gl cap c (ay c wk a L x).a (ay c wk a L x).L (ay c wk a L x).x true w) := by
 have e : ay c wk a L x = fol (dV c a L x) bW id := dS
 rw [e]
 refine aV (NP := eu) M wk s x (hx.mono aj) h hgv hln (aK _ _) aX (fun h _ => h) (fun h _ _ _ => h) rlT_15 Tryz.call163 (dV c a L x) (Lib.hid ?_) bW id Tryz.call142 (fun _ => Lib.hid ?_) ?_
 ·exact qa3o
 ·exact qa3p
 ·exact qa3q
theorem rlT_30 : RG true 30 163 (dw (fnV 144) 193) 142 fA eu := qa3n
theorem wlT_30 {B : Nat} {w : World} {g gl cap : Nat} {c : Cfg} {a : Acc} {L : List Int} (M : aC B w g c a gl cap L) (hf : c.Wf) (hb : 1 ≤ c.bl ∧ c.bl ≤ 100) (hm : L.length ≤ 1000) (hL : WR L) (wk : Int) (s : Wk) (x : St) (hx : Few 200 x) (h : aP w s x) (hp : PR x.p) (hgv : x.p.gv = true) (hln : x.p.ln = 30) :
  Calls Tryz.prog 55 #[.pointer (some ⟨g, 0, none⟩), .int .i64 wk, wv s] w (WS B g gl cap c (ay c wk a L x).a (ay c wk a L x).L (ay c wk a L x).x true w) := by
 have e : ay c wk a L x = fol (dV c a L x) bW id := dS
 rw [e]
 refine aV (NP := eu) M wk s x (hx.mono aj) h hgv hln (aK _ _) aX (fun h _ => h) (fun h _ _ _ => h) rlT_30 Tryz.call163 (dV c a L x) (Lib.hid ?_) bW id Tryz.call142 (fun _ => Lib.hid ?_) ?_
 ·exact qa3o
 ·exact qa3p
 ·exact qa3q
theorem rlT_31 : RG true 31 163 (dw (fnV 144) 193) 142 fA eu := qa3n
theorem wlT_31 {B : Nat} {w : World} {g gl cap : Nat} {c : Cfg} {a : Acc} {L : List Int} (M : aC B w g c a gl cap L) (hf : c.Wf) (hb : 1 ≤ c.bl ∧ c.bl ≤ 100) (hm : L.length ≤ 1000) (hL : WR L) (wk : Int) (s : Wk) (x : St) (hx : Few 200 x) (h : aP w s x) (hp : PR x.p) (hgv : x.p.gv = true) (hln : x.p.ln = 31) :
  Calls Tryz.prog 55 #[.pointer (some ⟨g, 0, none⟩), .int .i64 wk, wv s] w (WS B g gl cap c (ay c wk a L x).a (ay c wk a L x).L (ay c wk a L x).x true w) := by
 have e : ay c wk a L x = fol (dV c a L x) bW id := dS
 rw [e]
 refine aV (NP := eu) M wk s x (hx.mono aj) h hgv hln (aK _ _) aX (fun h _ => h) (fun h _ _ _ => h) rlT_31 Tryz.call163 (dV c a L x) (Lib.hid ?_) bW id Tryz.call142 (fun _ => Lib.hid ?_) ?_
 ·exact qa3o
 ·exact qa3p
 ·exact qa3q
theorem rlT_32 : RG true 32 163 (dw (fnV 144) 193) 142 fA eu := qa3n
theorem wlT_32 {B : Nat} {w : World} {g gl cap : Nat} {c : Cfg} {a : Acc} {L : List Int} (M : aC B w g c a gl cap L) (hf : c.Wf) (hb : 1 ≤ c.bl ∧ c.bl ≤ 100) (hm : L.length ≤ 1000) (hL : WR L) (wk : Int) (s : Wk) (x : St) (hx : Few 200 x) (h : aP w s x) (hp : PR x.p) (hgv : x.p.gv = true) (hln : x.p.ln = 32) :
  Calls Tryz.prog 55 #[.pointer (some ⟨g, 0, none⟩), .int .i64 wk, wv s] w (WS B g gl cap c (ay c wk a L x).a (ay c wk a L x).L (ay c wk a L x).x true w) := by
 have e : ay c wk a L x = fol (dV c a L x) bW id := dS
 rw [e]
 refine aV (NP := eu) M wk s x (hx.mono aj) h hgv hln (aK _ _) aX (fun h _ => h) (fun h _ _ _ => h) rlT_32 Tryz.call163 (dV c a L x) (Lib.hid ?_) bW id Tryz.call142 (fun _ => Lib.hid ?_) ?_
 ·exact qa3o
 ·exact qa3p
 ·exact qa3q
theorem rlT_39 : RG true 39 163 (dw (fnV 144) 193) 142 fA eu := qa3n
theorem wlT_39 {B : Nat} {w : World} {g gl cap : Nat} {c : Cfg} {a : Acc} {L : List Int} (M : aC B w g c a gl cap L) (hf : c.Wf) (hb : 1 ≤ c.bl ∧ c.bl ≤ 100) (hm : L.length ≤ 1000) (hL : WR L) (wk : Int) (s : Wk) (x : St) (hx : Few 200 x) (h : aP w s x) (hp : PR x.p) (hgv : x.p.gv = true) (hln : x.p.ln = 39) :
  Calls Tryz.prog 55 #[.pointer (some ⟨g, 0, none⟩), .int .i64 wk, wv s] w (WS B g gl cap c (ay c wk a L x).a (ay c wk a L x).L (ay c wk a L x).x true w) := by
 have e : ay c wk a L x = fol (dV c a L x) bW id := dS
 rw [e]
 refine aV (NP := eu) M wk s x (hx.mono aj) h hgv hln (aK _ _) aX (fun h _ => h) (fun h _ _ _ => h) rlT_39 Tryz.call163 (dV c a L x) (Lib.hid ?_) bW id Tryz.call142 (fun _ => Lib.hid ?_) ?_
 ·exact qa3o
 ·exact qa3p
 ·exact qa3q
end Go.Proofs.YtaiodbcnbcdokaaGreat.Me
