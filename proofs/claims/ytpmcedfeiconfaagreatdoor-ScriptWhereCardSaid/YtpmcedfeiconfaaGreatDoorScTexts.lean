/- Layer 21: numbers of a script's text; what is kept while it is written (made by genscText.py). -/
import Derived.Test.YtpmcedfeiconfaaGreatDoorScDo
import Derived.Test.YtpmcedfeiconfaaGreatDoorScBuild
import Derived.Test.YtpmcedfeiconfaaGreatDoorScrs
import Derived.Test.YtpmcedfeiconfaaGreatDoorOpTextW
import Derived.Test.YtpmcedfeiconfaaGreatDoorScChunk
import Derived.RangeFuncNested
import Derived.RangeFuncCalls
import Derived.TacticsInMore
import Derived.OrdersHeld
import Derived.OrdersIn
import Derived.Deep.RegionHeld
import Derived.Deep.Cut
import Derived.Deep.RegionHeld3
import Derived.Deep.CutRange
namespace Go.Proofs.YtpmcedfeiconfaaGreatDoor.Scw
open Go Go.RowKit Go.ChangeMaps Go.Proofs.YtpmcedfeiconfaaGreatDoor.Gro Go.Proofs.YtpmcedfeiconfaaGreatDoor.Own Go.Proofs.YtpmcedfeiconfaaGreatDoor.Mr Go.Proofs.YtpmcedfeiconfaaGreatDoor.Opn Go.Proofs.YtpmcedfeiconfaaGreatDoor.Opw Go.Proofs.YtpmcedfeiconfaaGreatDoor.Pl Go.Proofs.YtpmcedfeiconfaaGreatDoor.Scr Go.Proofs.YtpmcedfeiconfaaGreatDoor.Wd
set_option linter.unusedVariables false
set_option linter.unusedSimpArgs false
/-- The programs' lines written after w whole programs and k operations of the next. -/
def lns (c : Cfg) (p : List (List OpD)) (w k : Nat) : List (List UInt8) := hallL c :: (progL 0 (p.take w) ++ ((p.getD w []).take k).map (doL w))
theorem lns_zero (c : Cfg) (p : List (List OpD)) : lns c p 0 0 = [hallL c] := by simp [lns, progL]
theorem lns_op (c : Cfg) (p : List (List OpD)) (w k : Nat) (h : k < (p.getD w []).length) : lns c p w (k + 1) = lns c p w k ++ [doL w (p.getD w [])[k]] := by
  unfold lns
  rw [List.take_succ_eq_append_getElem h]
  simp only [List.map_append, List.map_cons, List.map_nil, List.append_assoc, List.cons_append]
theorem lns_prog (c : Cfg) (p : List (List OpD)) (w : Nat) (h : w < p.length) : lns c p (w + 1) 0 = lns c p w (p.getD w []).length := by
  have e : p.getD w [] = p[w] := by simp [List.getD_eq_getElem?_getD, h]
  unfold lns
  rw [List.take_succ_eq_append_getElem h, progL_app, List.length_take, Nat.min_eq_left (by omega), List.take_length, e]
  simp [progL]
theorem lns_done (c : Cfg) (p : List (List OpD)) : lns c p p.length 0 = hallL c :: progL 0 p := by simp [lns]
theorem progL_len : ∀ (p : List (List OpD)) (w : Nat), (∀ l ∈ p, l.length ≤ 200) → (progL w p).length ≤ 200 * p.length
  | [], _, _ => by simp [progL]
  | l :: r, w, h => by
    have h1 := progL_len r (w + 1) (fun x hx => h x (List.mem_cons_of_mem _ hx))
    have h2 := h l (by simp)
    simp only [progL, List.length_append, List.length_map, List.length_cons]
    omega
theorem lns_len (c : Cfg) (p : List (List OpD)) (w k : Nat) (hp : p.length ≤ 8) (h : ∀ l ∈ p, l.length ≤ 200) : (lns c p w k).length ≤ 2000 := by
  unfold lns
  have h1 := progL_len (p.take w) 0 (fun l hl => h l (List.mem_of_mem_take hl))
  have h2 : ((p.getD w []).take k).length ≤ 200 := by
    rw [List.length_take]
    by_cases hw : w < p.length
    · have e : p.getD w [] = p[w] := by simp [List.getD_eq_getElem?_getD, hw]
      have := h p[w] (List.getElem_mem hw)
      rw [e]; omega
    · have e : p.getD w [] = [] := by rw [List.getD_eq_getElem?_getD, List.getElem?_eq_none (by omega)]; rfl
      rw [e]; simp
  simp only [List.length_cons, List.length_append, List.length_map, List.length_take] at *
  have : min w p.length ≤ 8 := by omega
  omega
/-- The pieces of twenty. -/
def pieceL (k : List Int) (i : Nat) : List Int := (k.drop (20 * i)).take 20
theorem chunks_pieces : ∀ (n : Nat) (k : List Int), k.length < 20 * n → chunks n k = (List.range ((k.length + 19) / 20)).map (pieceL k)
  | 0, k, h => by omega
  | n + 1, k, h => by
    unfold chunks
    by_cases hk : k = []
    · rw [if_pos hk, hk]; rfl
    · rw [if_neg hk]
      have hpos := List.length_pos_iff.2 hk
      by_cases h20 : k.length ≤ 20
      · have e : (k.length + 19) / 20 = 1 := by omega
        have e2 : k.drop 20 = [] := List.drop_eq_nil_of_le h20
        rw [e, e2]
        have : chunks n [] = [] := by cases n <;> simp [chunks]
        rw [this]
        simp [pieceL]
      · have ih := chunks_pieces n (k.drop 20) (by rw [List.length_drop]; omega)
        have e : (k.length + 19) / 20 = ((k.drop 20).length + 19) / 20 + 1 := by rw [List.length_drop]; omega
        rw [ih, e, List.range_succ_eq_map, List.map_cons, List.map_map]
        congr 1
        apply List.map_congr_left
        intro i _
        simp only [pieceL, Function.comp_def, List.drop_drop]
        congr 2
        rw [Nat.mul_succ]
        omega
theorem chunk_pieces (k : List Int) : chunk k = (List.range ((k.length + 19) / 20)).map (pieceL k) := chunks_pieces _ k (by omega)
theorem chunk_pieces_map (L : List (List UInt8)) (k : List Int) : L ++ (chunk k).map pickL = L ++ (List.range ((k.length + 19) / 20)).map fun i => pickL (pieceL k i) := by rw [chunk_pieces, List.map_map]; rfl
theorem piece_len (k : List Int) (i : Nat) : (pieceL k i).length = min 20 (k.length - 20 * i) := by simp [pieceL]
theorem reads_piece {w : World} {b off cap : Nat} {k : List Int} (h : Reads w .i64 (.slice (some ⟨b, off, none⟩) k.length cap) k) (i : Nat) : Reads w .i64 (Scc.pieceV b off k.length i) (pieceL k i) := by
  obtain ⟨ad, cp, he, h1, h2, h3⟩ := h
  injection he with he1 _ he2
  subst he1 he2
  unfold Scc.pieceV
  refine ⟨some ⟨b, off + 20 * i, none⟩, _, by rw [piece_len], by rw [piece_len]; exact Nat.le_refl _, by omega, ?_⟩
  by_cases hp : pieceL k i = []
  · exact .inl hp
  · rcases h3 with h3 | ⟨b', off', e, hl, hc⟩
    · exact absurd (by rw [h3]; simp [pieceL]) hp
    · injection e with e
      injection e with e1 e2 _
      subst e1 e2
      refine .inr ⟨b, off + 20 * i, rfl, hl, fun j hj => ?_⟩
      have hj2 : 20 * i + j < k.length := by rw [piece_len] at hj; omega
      have := hc (20 * i + j) hj2
      rw [show off + 20 * i + j = off + (20 * i + j) by omega, this]
      simp [pieceL]
theorem join_end : ∀ (L : List (List UInt8)), L ≠ [] → Lib.join L [10] ++ [10] = (L.map (· ++ [10])).flatten
  | [], h => absurd rfl h
  | [x], _ => by simp [Lib.join_one]
  | x :: y :: r, _ => by
    have ih := join_end (y :: r) (by simp)
    have e : Lib.join (x :: y :: r) [10] = x ++ [10] ++ Lib.join (y :: r) [10] := by
      rw [Lib.join_cons, Lib.join_cons]
      simp [Lib.joinTail]
    rw [e, List.append_assoc, ih]
    simp
/-- The slice of lines and its box. -/
def LnB (B gl : Nat) (L : List (List UInt8)) (wr : World) : Prop := ∃ a c, Bk wr gl #[.slice a L.length c] 45 ∧ OwnS B wr (.slice a L.length c) L
theorem LnB.keep {B gl : Nat} {L : List (List UInt8)} {w w' : World} (h : LnB B gl L w) (hb : Below w.heap.size w w') : LnB B gl L w' := by
  obtain ⟨a, c, h1, h2⟩ := h
  exact ⟨a, c, h1.keep hb, owns_below h2 hb (fun g hg => (World.ownsRow.lt h2 g hg).2)⟩
theorem elemStr : Elem Tryz.prog 45 9 1 16 := ⟨Tryz.underlying45, by
  have h : (Tryz.prog.info? 9).map (fun i => (i.zero, i.size, i.bytes)) = some (some (.string ⟨#[]⟩), 1, 16) := by kernel_rfl
  obtain ⟨i, h1, h2, h3, h4⟩ := Go.Proofs.YtpmcedfeiconfaaGreatDoor.Opw.parts_info h
  exact ⟨i, _, h1, h2, h3, h4, rfl⟩, by decide, by decide⟩
theorem fJoin10 {B : Nat} {w : World} {v : Value} {L : List (List UInt8)} (h : OwnS B w v L) (h0 : 0 < L.length) (hm : L.length ≤ 10000) (hl : (Lib.join L [10]).length ≤ 140737488355328) :
    Calls Tryz.prog 22 #[v, .string ⟨#[10]⟩] w fun e w' => e = .returned (.string ⟨(Lib.join L [10]).toArray⟩) ∧ Below w.heap.size w w' := by
  obtain ⟨g, cap, rfl, hge, hlt, hcap, hmx, hc⟩ := owns_cells h h0
  have e1 : (L.map fun x => (⟨x.toArray⟩ : ByteArray)).map (·.data.toList) = L := by
    rw [List.map_map]
    conv => rhs; rw [← List.map_id L]
    congr 1
  have := Tryz.strings_Join g 0 cap (L.map fun x => (⟨x.toArray⟩ : ByteArray)) ⟨#[10]⟩ w (fun j x hx => by
    rw [List.getElem?_map] at hx
    obtain ⟨y, hy, rfl⟩ := Option.map_eq_some_iff.1 hx
    have hj := (List.getElem?_eq_some_iff.1 hy).1
    rw [Nat.zero_add, hc j (by simpa using hj), List.getElem?_map, hy]
    rfl) hlt (by simp; omega) (by simp; exact hcap) (by rw [e1]; exact hl)
  rw [e1, List.length_map] at this
  exact this
theorem LnB.turn {B gl : Nat} {L : List (List UInt8)} {W W' : World} {row : Option Nat} (h : LnB B gl L W) (hg : W.grownBy W' row) (hr : ∀ r, row = some r → ∃ o : Obj, W.heap[r]? = some o ∧ o.isCells = false) : LnB B gl L W' := by
  obtain ⟨a, c, h1, h2⟩ := h
  have cells : ∀ g cs t, W.heap[g]? = some (.cells cs t (0, 0)) → some g ≠ row := fun g cs t hc e => by
    obtain ⟨o, ho, hn⟩ := hr g e.symm
    rw [hc] at ho
    injection ho with ho
    subst ho
    cases hn
  refine ⟨a, c, (hg.block gl h1.lt (cells gl _ _ h1)).trans h1, own_same h2 (fun g hq => ?_)⟩
  obtain ⟨cur, hc⟩ := own_block h2 g hq
  exact hg.block g (World.ownsRow.lt h2 g hq).2 (cells g _ _ hc)
/-- What holds between the pieces. -/
def TxI (B gl hs hn : Nat) (vs : Value) (w : World) (L0 : List (List UInt8)) (k : List Int) (pre : List Nat) (W : World) : Prop := LnB B gl (L0 ++ pre.map fun i => pickL (pieceL k i)) W ∧ Below B w W ∧ Bk W hs #[vs] 26 ∧ Bk W hn #[.int .i64 20] 3
theorem bk_turn {W W' : World} {g : Nat} {cs : Array Value} {t : TypeId} {row : Option Nat} (h : Bk W g cs t) (hg : W.grownBy W' row) (hr : ∀ r, row = some r → ∃ o : Obj, W.heap[r]? = some o ∧ o.isCells = false) : Bk W' g cs t :=
  (hg.block g h.lt (fun e => by
    obtain ⟨o, ho, hn⟩ := hr g e.symm
    unfold Bk at h
    rw [h] at ho
    injection ho with ho
    subst ho
    cases hn)).trans h
theorem TxI_own {B B7 gl hs hn : Nat} {vs : Value} {w : World} {L0 : List (List UInt8)} {k : List Int} (hB : B ≤ B7) (hw : B ≤ w.heap.size) : OwnFrom B7 (TxI B gl hs hn vs w L0 k) := fun s W W' row hs hg hr =>
  ⟨hs.1.turn hg (fun r e => (hr r e).2), hs.2.1.grown hg (Nat.le_trans hw hs.2.1.size) (fun r e => Nat.le_trans hB (hr r e).1), bk_turn hs.2.2.1 hg (fun r e => (hr r e).2), bk_turn hs.2.2.2 hg (fun r e => (hr r e).2)⟩
theorem G2.of {r1 r2 : Option Nat} {w w' : World} (h : Below w.heap.size w w') : G2 r1 r2 w w' := ⟨h.os, h.tape, h.output, h.size, fun k hk _ _ => h.block k hk⟩
theorem G2.keeps {B gl n : Nat} {cs : Array Value} {t : TypeId} {e : TypeId} {sz : Nat} {v : Value} {xs : List Value} {W W' : World} (h : G2 v.ownBlock (some gl) W W') (hr : W.ownsRow B e sz v n xs) (hb : Bk W gl cs t) : KeepsOthers W W' :=
  ⟨h.size, fun k o ho hn => by
    have h1 : some k ≠ v.ownBlock := fun e => by
      obtain ⟨cur, hc⟩ := own_block hr k e.symm
      rw [hc] at ho
      injection ho with ho
      subst ho
      cases hn
    have h2 : some k ≠ some gl := fun e => by
      injection e with e
      subst e
      unfold Bk at hb
      rw [hb] at ho
      injection ho with ho
      subst ho
      cases hn
    exact (h.block k (Array.getElem?_eq_some_iff.1 ho).1 h1 h2).trans ho⟩
theorem bk_ne {w : World} {g g' : Nat} {cs cs' : Array Value} {t t' : TypeId} (h : Bk w g cs t) (h' : Bk w g' cs' t') (ht : t ≠ t') : g ≠ g' := fun e => by
  subst e
  unfold Bk at h h'
  rw [h] at h'
  injection h' with h'
  injection h' with _ h2
  exact ht h2
theorem piece_in {c : Cfg} {k : List Int} (h : inR c k = true) (h8 : c.ww ≤ 8) (i : Nat) : ∀ x ∈ pieceL k i, 0 ≤ x ∧ x ≤ 9223372036854775807 := fun x hx => by
  have hm : x ∈ k := List.mem_of_mem_drop (List.mem_of_mem_take hx)
  have := List.all_eq_true.1 h x hm
  simp only [Bool.and_eq_true, decide_eq_true_eq] at this
  omega
theorem mem_progL : ∀ (p : List (List OpD)) (w0 : Nat) (l : List UInt8), l ∈ progL w0 p → ∃ w o q, l = doL w o ∧ q ∈ p ∧ o ∈ q ∧ w < w0 + p.length
  | [], w0, l, h => by simp [progL] at h
  | x :: r, w0, l, h => by
    rw [progL] at h
    rcases List.mem_append.1 h with h | h
    · obtain ⟨o, ho, rfl⟩ := List.mem_map.1 h
      exact ⟨w0, o, x, rfl, by simp, ho, by simp⟩
    · obtain ⟨w, o, q, h1, h2, h3, h4⟩ := mem_progL r (w0 + 1) l h
      exact ⟨w, o, q, h1, by simp [h2], h3, by simp only [List.length_cons]; omega⟩
theorem line_le {s : ScD} (hr : rightS s = true) (FT : ∀ l ∈ s.p, ∀ o ∈ l, o.Fits) : ∀ l ∈ lines s, l.length ≤ 500 := fun l hl => by
  obtain ⟨r1, r2, r3, r4, r5, r6⟩ := (right_iff _).1 hr
  have hw := ok_ww r1
  unfold lines at hl
  rcases List.mem_cons.1 hl with rfl | hl
  · have := numsT_len (cfgL s.c) (ok_in r1)
    have e8 : (cfgL s.c).length = 8 := rfl
    rw [e8] at this
    unfold hallL
    rw [List.length_append]
    show 4 + _ ≤ _
    omega
  · rcases List.mem_append.1 hl with hl | hl
    · obtain ⟨w, o, q, rfl, h2, h3, h4⟩ := mem_progL _ _ _ hl
      have h5 := text_len (FT q h2 o h3)
      have h6 := dec_len (w : Int) (by omega)
      unfold doL
      simp only [List.length_append, List.length_cons]
      show 2 + _ ≤ _
      omega
    · rw [chunk_pieces, List.map_map] at hl
      obtain ⟨i, _, rfl⟩ := List.mem_map.1 hl
      have := numsT_len (pieceL s.k i) (piece_in r6 hw.2 i)
      rw [piece_len] at this
      show (pickW ++ numsT (pieceL s.k i)).length ≤ 500
      rw [List.length_append]
      show 4 + _ ≤ _
      omega
theorem lines_count {s : ScD} (hr : rightS s = true) : (lines s).length ≤ 3000 := by
  obtain ⟨r1, r2, r3, r4, r5, r6⟩ := (right_iff _).1 hr
  have hw := ok_ww r1
  have h1 := progL_len s.p 0 (fun l hl => (r5 l hl).1)
  unfold lines
  rw [chunk_pieces]
  simp only [List.length_cons, List.length_append, List.length_map, List.length_range]
  omega
theorem flat_len : ∀ (L : List (List UInt8)) (n : Nat), (∀ l ∈ L, l.length ≤ n) → ((L.map (· ++ [10])).flatten).length ≤ L.length * (n + 1)
  | [], _, _ => by simp
  | x :: L, n, h => by
    have h1 := flat_len L n (fun l hl => h l (List.mem_cons_of_mem _ hl))
    have h2 := h x (by simp)
    simp only [List.map_cons, List.flatten_cons, List.length_append, List.length_cons, List.length_nil, Nat.succ_mul] at h1 ⊢
    omega
theorem textS_len {s : ScD} (hr : rightS s = true) (FT : ∀ l ∈ s.p, ∀ o ∈ l, o.Fits) : (textS s).length ≤ 1600000 := by
  have h1 := flat_len (lines s) 500 (line_le hr FT)
  have h2 := lines_count hr
  unfold textS
  have : (lines s).length * (500 + 1) ≤ 3000 * 501 := Nat.mul_le_mul_right _ h2
  omega
theorem text_join (s : ScD) : Lib.join (lines s) [10] ++ [10] = textS s := join_end (lines s) (by simp [lines])
theorem fChunk (a : Option Addr) (n c : Nat) (w : World) : Calls Tryz.prog 21 #[.slice a n c, .int .i64 20] w fun e w' =>
    e = .returned (.func (.func 43) #[] #[.pointer (some ⟨w.heap.size, 0, none⟩), .pointer (some ⟨w.heap.size + 1, 0, none⟩)]) ∧ w' = (w.alloc (.cells #[.slice a n c] 26)).alloc (.cells #[.int .i64 20] 3) := by
  have hmf : ∀ (fn : Fn) (first cap : Array Value) (w : World), (Instr.makeFunc fn first cap).run Tryz.prog w = .ok (.func fn first cap) w := fun _ _ _ _ => rfl
  have c1 : ((w.alloc (.cells #[.slice a n c] 26)).alloc (.cells #[.int .i64 20] 3)).cell? ⟨w.heap.size + 1, 0, none⟩ = some (.int .i64 20) := by
    have := (Bk.new (w.alloc (.cells #[.slice a n c] 26)) #[.int .i64 20] 3).cells 0
    rw [World.size_alloc] at this
    exact this
  go_enter Tryz.func21, Tryz.ntmps21
  go_wp2
  go_ret
  exact ⟨rfl, rfl⟩
end Go.Proofs.YtpmcedfeiconfaaGreatDoor.Scw

/- Of no program: a region that draws its order, walked outside a round, serves in a round of the wide fence. -/
namespace Go.Proofs.YtpmcedfeiconfaaGreatDoor.Rnd
open Go Go.RowKit
set_option linter.unusedVariables false
/-- The end alone: nothing else may come out. -/
def Only (Qn : Act → World → Prop) : Exit → Act → World → Prop := fun e a w => e = .normal ∧ Qn a w
theorem op_in {P : Program} {Qn : Act → World → Prop} {Q : Exit → Act → World → Prop} {l n : Nat} {o : Oper} {a : Act} {w : World} {K K' : Act → World → Prop} (hnd : ∀ c, o.op ≠ .defer c) (hK : ∀ a w, K a w → K' a w)
    (h : o.wp P a w K (Only Qn)) : o.wpIn (Fence.wide.inRound l) n P a w K' Q := by
  refine ⟨fun _ _ => trivial, ?_⟩
  have hro : (Fence.wide.inRound l).round = some l := rfl
  rw [hro, Oper.semAt_eq _ _ _ hnd]
  unfold Oper.wp at h
  generalize (execOp a.eval o).run P w = r at h ⊢
  cases r with
  | ok x w' =>
    cases x with
    | value v => exact hK _ _ h
    | skip => exact hK _ _ h
    | defer d => exact hK _ _ h
    | enter f args =>
      refine ⟨fun hd => by simp [Fence.wide] at hd, CallsIn.inRound l (callsIn_wide.2 ?_)⟩
      refine Calls.mono h fun e w'' he => ?_
      cases e with
      | returned v => exact hK _ _ he
      | panicked chain => exact absurd he.1 (by simp)
      | outgrown => obtain ⟨a', w3, h3, _⟩ := he; cases h3
    | row row args =>
      refine ⟨fun hd => by simp [Fence.wide] at hd, fun c cs _ => ?_⟩
      obtain ⟨v, w3, h1, h2⟩ := h c cs
      exact ⟨v, w3, hK _ _ h1, stepsIn_wide.2 h2⟩
    | round _ _ _ _ _ => exact h.elim
    | _ => exact h.elim
  | halt x w' =>
    cases x with
    | panic v => exact absurd h.1 (by simp)
    | _ => exact h.elim
theorem any_in {P : Program} {md : Region.Mode} {ops : Array Oper} {Qn : Act → World → Prop} {Q : Exit → Act → World → Prop} {l n : Nat} (hnd : ∀ (i : Nat) (o : Oper), ops[i]? = some o → ∀ c, o.op ≠ .defer c) (hq : ∀ a w, Qn a w → Q .normal a w) :
    ∀ (fuel : Nat) (listed : Array Bool) (a : Act) (w : World), wpAny P md ops (Only Qn) fuel listed a w → wpAnyIn (Fence.wide.inRound l) n P md ops Q fuel listed a w
  | 0, _, _, _, h => ⟨h.1, hq _ _ h.2.2⟩
  | fuel + 1, listed, a, w, h => by
    refine ⟨fun h0 => hq _ _ (h.1 h0).2, fun i hi => ?_⟩
    have h1 := h.2 i hi
    unfold wpOp at h1
    unfold wpOpIn
    cases ho : ops[i]? with
    | none =>
      rw [ho] at h1
      exact any_in hnd hq fuel _ a w h1
    | some o =>
      rw [ho] at h1
      simp only at h1 ⊢
      by_cases hw : Region.wanted o (yielded ops a.tmps) = true
      · rw [if_pos hw] at h1 ⊢
        rcases h1 with h1 | ⟨_, a', w', h2, _⟩
        · exact op_in (hnd i o ho) (fun a w => any_in hnd hq fuel _ a w) h1
        · cases h2
      · rw [if_neg hw] at h1 ⊢
        exact ⟨fun _ _ => trivial, any_in hnd hq fuel _ _ w h1⟩
def noDefer (ops : Array Oper) : Bool := ops.toList.all fun o => match o.op with | .defer _ => false | _ => true
theorem noDefer_spec {ops : Array Oper} (h : noDefer ops = true) : ∀ (i : Nat) (o : Oper), ops[i]? = some o → ∀ c, o.op ≠ .defer c := by
  intro i o ho c hc
  have hm : o ∈ ops.toList := by
    rw [← Array.getElem?_toList] at ho
    exact List.mem_of_getElem? ho
  have := List.all_eq_true.1 h o hm
  rw [hc] at this
  cases this
theorem region_in {P : Program} {id : Nat} {ops : Array Oper} {Qn : Act → World → Prop} {Q : Exit → Act → World → Prop} {S : World → Prop} {l n : Nat} {a : Act} {w : World} (hm : P.follows .mixedOrders = true) (hnd : ∀ (i : Nat) (o : Oper), ops[i]? = some o → ∀ c, o.op ≠ .defer c)
    (hq : ∀ a w, Qn a w → Q .normal a w) (h : wpAnyH P .any ops (Only Qn) S ops.size (Array.replicate ops.size false) a w.drew) : (Code.region id ops true).wpIn (Fence.wide.inRound l) n P Q a w :=
  wpIn_region_any hm (any_in hnd hq _ _ _ _ (wpAny_of_held _ _ _ _ h))
end Go.Proofs.YtpmcedfeiconfaaGreatDoor.Rnd

/- Layer 21: script.Text (made by genscText.py). -/
namespace Go.Proofs.YtpmcedfeiconfaaGreatDoor.Scw
open Go Go.RowKit Go.ChangeMaps Go.Proofs.YtpmcedfeiconfaaGreatDoor.Gro Go.Proofs.YtpmcedfeiconfaaGreatDoor.Own Go.Proofs.YtpmcedfeiconfaaGreatDoor.Mr Go.Proofs.YtpmcedfeiconfaaGreatDoor.Opn Go.Proofs.YtpmcedfeiconfaaGreatDoor.Opw Go.Proofs.YtpmcedfeiconfaaGreatDoor.Pl Go.Proofs.YtpmcedfeiconfaaGreatDoor.Scr Go.Proofs.YtpmcedfeiconfaaGreatDoor.Wd
set_option linter.unusedVariables false
set_option linter.unusedSimpArgs false
attribute [local go_sem] Oper.semAt_some
theorem calls_marks {P : Program} {f : FuncId} {fn : Func} {c : Code} {args : Array Value} {w : World} {R : Ending → World → Prop} (hf : P.funcs[f]? = some fn) (hb : fn.body = some c)
    (h : c.wp P (bodyPostM Fence.wide 3 P fn R) { tmps := args ++ Array.replicate (fn.ntmps - args.size) undef, defers := [] } w) : Calls P f args w R :=
  callsIn_wide.1 (callsIn_of_wp_marks (n := 3) hf hb trivial (wpIn_wide.2 h) rfl)
theorem sc_mid {w : World} {g : Nat} {c : Cfg} {vp vk : Value} (B : Bk w g (sC c vp vk) 34) : w.rangeAt g 0 (cfgC c).toList := cfg_mid B
abbrev cfgZ : Array Value := #[.int .i64 0, .int .i64 0, .int .i64 0, .int .i64 0, .int .i64 0, .int .i64 0, .int .i64 0, .int .u64 0]
theorem run_alloc_cz (w : World) : (Instr.alloc 24 true (.tuple #[])).run Tryz.prog w = .ok (.pointer (some ⟨w.heap.size, 0, none⟩)) (w.alloc (.cells cfgZ 24)) := by kernel_rfl
theorem wpList_alloc_cz {ops : Array Oper} {rest : List Oper} {o : Oper} {a : Act} {w : World} {Q : Exit → Act → World → Prop} (hg : o.guard = none) (ho : o.op = .alloc 24)
    (h : wpList Tryz.prog ops Q rest (a.put o.dst (.pointer (some ⟨w.heap.size, 0, none⟩))) (w.alloc (.cells cfgZ 24))) : wpList Tryz.prog ops Q (o :: rest) a w := by
  refine wpList_plain hg fun K hK => ?_
  unfold Oper.wp
  simp [execOp, ho, run_alloc_cz, Result.andThen]
  exact hK _ _ h
set_option maxRecDepth 100000 in
set_option maxHeartbeats 16000000 in
theorem fScText (s : ScD) (W : s.c.Wf) (FT : ∀ l ∈ s.p, ∀ o ∈ l, o.Fits) (ap ak : Option Addr) (cp ck : Nat) (w : World) (L : Lb w) (RK : Reads w .i64 (.slice ak s.k.length ck) s.k) (RP : ReadsP w (.slice ap s.p.length cp) s.p) (hr : rightS s = true) :
    Calls Tryz.prog 9 #[sV s.c (.slice ap s.p.length cp) (.slice ak s.k.length ck)] w fun e w' => e = .returned (.tuple #[strV (textS s), .int .i64 0]) ∧ Below w.heap.size w w' := by
  obtain ⟨c, p, k⟩ := s
  simp only at W FT RK RP ⊢
  obtain ⟨vp, hvp⟩ : ∃ q, q = Value.slice ap p.length cp := ⟨_, rfl⟩
  obtain ⟨vk, hvk⟩ : ∃ q, q = Value.slice ak k.length ck := ⟨_, rfl⟩
  rw [← hvp, ← hvk]
  have X1 := Bk.new w (sC c vp vk) 34
  have b1 : Below w.heap.size w (w.alloc (.cells (sC c vp vk) 34)) := (Below.refl _ _).alloc (Nat.le_refl _) _
  have HRT : RowKit.Hid (Calls Tryz.prog 12 #[sV c vp vk] (w.alloc (.cells (sC c vp vk) 34)) fun e w' => e = .returned (.bool true) ∧ Below (w.alloc (.cells (sC c vp vk) 34)).heap.size (w.alloc (.cells (sC c vp vk) 34)) w') := Lib.hid (by
    have h := fRightA ⟨c, p, k⟩ W ap ak cp ck (w.alloc (.cells (sC c vp vk) 34)) (RK.keep b1) (RP.keep b1)
    rw [hr] at h
    rw [hvp, hvk] at h ⊢
    exact h)
  obtain ⟨w1, hw1⟩ : ∃ q, q = w.alloc (.cells (sC c vp vk) 34) := ⟨_, rfl⟩
  rw [← hw1] at X1 b1 HRT
  have s1 : w1.heap.size = w.heap.size + 1 := by rw [hw1]; simp
  have HX1 := Lib.hid X1
  have HB1 := Lib.hid b1
  have HL := Lib.hid L
  have HRK := Lib.hid RK
  have HRP := Lib.hid RP
  have HFT := Lib.hid FT
  have HS1 := Lib.hid s1
  have HVP := Lib.hid hvp
  have HVK := Lib.hid hvk
  obtain ⟨r1, r2, r3, r4, r5, r6⟩ := (right_iff _).1 hr
  have HC := Lib.hid (ok_in r1)
  have HR2 := Lib.hid r2
  have HR3 := Lib.hid r3
  have HR5 := Lib.hid r5
  have HR6 := Lib.hid r6
  have HWW := Lib.hid (ok_ww r1)
  have HRIGHT := Lib.hid hr
  clear X1 b1 RK RP FT hvp hvk hr r1 r2 r3 r4 r5 r6 s1
  refine calls_marks Tryz.func9 rfl ?_
  simp only [Tryz.ntmps9, List.size_toArray, List.length_cons, List.length_nil, Nat.reduceAdd, Nat.reduceSub, Array.replicate_succ, Array.replicate_zero, List.push_toArray, List.append_toArray, List.nil_append, List.cons_append]
  go_upto_region 1 with fail
  rw [← hw1]
  clear hw1
  have x1 := HX1.out.cells
  have l1 := HX1.out.lt
  go_wp2_with (first | (refine wpList_load_row rfl 34 _ rfl w.heap.size rfl _ (sC c vp vk) (0, 0) _ (by exact HX1.out) Tryz.underlying34 rfl (by kernel_rfl) ?_))
  refine HRT.out.mono ?_
  rintro e w2 ⟨rfl, hb2⟩
  have X2 := HX1.out.keep hb2
  have HB2 := Lib.hid (HB1.out.trans (hb2.mono HB1.out.size))
  have HX2 := Lib.hid X2
  have M2 := Lib.hid (sc_mid X2)
  have x2 := X2.cells
  have l2 := X2.lt
  have Z := Bk.new w2 cfgZ 24
  have BC : Bk ((w2.alloc (.cells cfgZ 24)).setRow w2.heap.size (cfgC c)) w2.heap.size (cfgC c) 24 := Z.setRow _
  have bb : Below w2.heap.size w2 ((w2.alloc (.cells cfgZ 24)).setRow w2.heap.size (cfgC c)) := below_setRow ((Below.refl _ _).alloc (Nat.le_refl _) _) (Nat.le_refl _) _
  obtain ⟨w3, hw3⟩ : ∃ q, q = (w2.alloc (.cells cfgZ 24)).setRow w2.heap.size (cfgC c) := ⟨_, rfl⟩
  rw [← hw3] at BC bb
  have HB3 := Lib.hid (HB2.out.trans (bb.mono HB2.out.size))
  have HX3 := Lib.hid (X2.keep bb)
  have c3 : ∀ j, w3.cell? ⟨w2.heap.size, j, none⟩ = (#[.int .i64 c.ww, .int .i64 c.sl, .int .i64 c.bl, .int .i64 c.wd, .int .i64 c.en, .int .i64 c.rk, .int .i64 c.bg, .int .u64 c.la] : Array Value)[j]? := BC.cells
  have lc3 := BC.lt
  have HBC := Lib.hid BC
  clear hb2 bb x1 l1 BC X2
  go_upto_region 4 with (first | (refine wpList_load_mid rfl 24 _ rfl w.heap.size 0 rfl (cfgC c).toList _ (by exact M2.out) Tryz.underlying24 rfl (by kernel_rfl) ?_) | (refine wpList_alloc_cz rfl rfl ?_) | (refine wpList_store_row rfl 24 _ _ rfl w2.heap.size (cfgC c) rfl rfl _ _ (by exact Z) (by kernel_rfl) (by kernel_rfl) (by kernel_rfl) ?_; rw [← hw3]; clear hw3 Z x2 l2))
  try simp only [Act.put, List.setIfInBounds_toArray, List.set_cons_succ, List.set_cons_zero]
  have R4 : Reads (w3.alloc (.cells #[.int .i64 c.ww, .int .i64 c.sl, .int .i64 c.bl, .int .i64 c.wd, .int .i64 c.en, .int .i64 c.rk, .int .i64 c.bg, .int .i64 c.la] 3)) .i64 (.slice (some ⟨w3.heap.size, 0, none⟩) 8 8) (cfgL c) := Reads.of_bk (l := cfgL c) (t := 3) (Bk.new w3 _ _) (by show 8 ≤ maxLen; decide)
  have b4 : Below w3.heap.size w3 (w3.alloc (.cells #[.int .i64 c.ww, .int .i64 c.sl, .int .i64 c.bl, .int .i64 c.wd, .int .i64 c.en, .int .i64 c.rk, .int .i64 c.bg, .int .i64 c.la] 3)) := (Below.refl _ _).alloc (Nat.le_refl _) _
  have HB4 := Lib.hid (HB3.out.trans (b4.mono HB3.out.size))
  have HX4 := Lib.hid (HX3.out.keep b4)
  have HNT := Lib.hid (fNumsText (cfgL c) (by show 8 ≤ 1000; decide) HC.out _ _ (HL.out.keep HB4.out) R4)
  have hla : IntKind.i64.wrap c.la = c.la := IntWalk.i64_in _ (by have h := HC.out c.la (by simp [cfgL]); have h1 := h.1; have h2 := h.2; omega)
  have hnl := numsT_len (cfgL c) HC.out
  have e8 : (cfgL c).length = 8 := rfl
  rw [e8] at hnl
  obtain ⟨tx, htx⟩ : ∃ q, q = numsT (cfgL c) := ⟨_, rfl⟩
  rw [← htx] at HNT hnl
  have hsum : ¬ 9223372036854775807 < 4 + (tx.length : Int) := by omega
  have HTX := Lib.hid htx
  clear R4 b4 htx e8
  go_wp2_with fail
  refine HNT.out.mono ?_
  rintro e w5 ⟨rfl, hb5⟩
  have HB5 := Lib.hid (HB4.out.trans (hb5.mono HB4.out.size))
  have HX5 := Lib.hid (HX4.out.keep hb5)
  clear hb5
  go_upto_region 5 with fail
  have eH : (⟨#[104, 97, 108, 108]⟩ ++ ⟨tx.toArray⟩ : ByteArray) = ⟨(hallL c).toArray⟩ := by
    rw [HTX.out]
    apply ByteArray.ext
    simp [hallL]
  rw [eH]
  have I6 := Bk.new (w5.alloc (.cells #[strV (hallL c)] 9)) #[.slice (some ⟨w5.heap.size, 0, none⟩) 1 1] 45
  rw [World.size_alloc] at I6
  have O6 : OwnS w.heap.size ((w5.alloc (.cells #[strV (hallL c)] 9)).alloc (.cells #[.slice (some ⟨w5.heap.size, 0, none⟩) 1 1] 45)) (.slice (some ⟨w5.heap.size, 0, none⟩) 1 1) [hallL c] := by
    have h := World.ownsRow_lit (base := w.heap.size) (e := 9) (size := 1) w5 #[strV (hallL c)] 1 HB5.out.size (by decide) rfl
    exact h.alloc _
  have HX6 := Lib.hid ((HX5.out.alloc (.cells #[strV (hallL c)] 9)).alloc (.cells #[.slice (some ⟨w5.heap.size, 0, none⟩) 1 1] 45))
  have HB6 := Lib.hid ((HB5.out.alloc HB5.out.size (.cells #[strV (hallL c)] 9)).alloc (by have := HB5.out.size; simp; omega) (.cells #[.slice (some ⟨w5.heap.size, 0, none⟩) 1 1] 45))
  obtain ⟨w6, hw6⟩ : ∃ q, q = (w5.alloc (.cells #[strV (hallL c)] 9)).alloc (.cells #[.slice (some ⟨w5.heap.size, 0, none⟩) 1 1] 45) := ⟨_, rfl⟩
  rw [← hw6] at I6 O6 HX6 HB6 ⊢
  have hgl0 : w.heap.size < w5.heap.size + 1 := by have := HB5.out.size; omega
  obtain ⟨gl, hgl⟩ : ∃ q, q = w5.heap.size + 1 := ⟨_, rfl⟩
  rw [← hgl] at I6 hgl0 ⊢
  have HLN6 : RowKit.Hid (LnB w.heap.size gl (lns c p 0 0) w6) := Lib.hid ⟨_, _, I6, by rw [lns_zero]; exact O6⟩
  have hvp := HVP.out
  have hvk := HVK.out
  subst hvp hvk
  have x6 := HX6.out.cells
  have l6 := HX6.out.lt
  have HGL := Lib.hid hgl0
  have hpl : p.length ≤ 8 := by have h1 : (p.length : Int) ≤ c.ww := HR2.out; have h2 : c.ww ≤ 8 := HWW.out.2; omega
  clear I6 O6 hw6 hgl eH hla hnl hsum c3 lc3 hgl0
  go_wp2
  clear x6 l6
  go_loopw [42] (fun i wr => ∃ n : Nat, n ≤ p.length ∧ i = .int .i64 (n : Int) ∧ RowKit.Hid (LnB w.heap.size gl (lns c p n 0) wr) ∧ RowKit.Hid (Below w.heap.size w wr) ∧ RowKit.Hid (Bk wr w.heap.size (sC c (.slice ap p.length cp) (.slice ak k.length ck)) 34)) (fun i _ => p.length - (intOf i).toNat)
  case atStart => exact ⟨0, Nat.zero_le _, rfl, HLN6, HB6, HX6⟩
  case round =>
    obtain ⟨n, hn, rfl, HLN, HW, HX⟩ := hrel
    by_cases hlt : n < p.length
    · obtain ⟨_, _, he, _, _, hrp⟩ := HRP.out
      injection he with he1 _ he2
      subst he1 he2
      rcases hrp with hrp | ⟨b, off, rfl, hbl, hcell⟩
      · rw [hrp] at hlt; cases hlt
      obtain ⟨u, hu0, hu2⟩ := hcell n hlt
      have hu1 := (HW.out.cell (p := ⟨b, off + n, none⟩) hbl).trans hu0
      obtain ⟨au, cu, rfl, hcu, hcm, hru⟩ := hu2
      obtain ⟨q, hq⟩ : ∃ q, q = p[n] := ⟨_, rfl⟩
      have hqd : p.getD n [] = q := by rw [hq]; simp [List.getD_eq_getElem?_getD, hlt]
      have hq200 : q.length ≤ 200 := (HR5.out p[n] (List.getElem_mem hlt)).1 |> fun h => by rw [hq]; exact h
      rw [← hq] at hu1 hcu hru
      clear hu0
      have HQD := Lib.hid hqd
      have HRU := Lib.hid hru
      have HBLU := Lib.hid hbl
      have HQ := Lib.hid hq
      clear hcell hru hqd hq hbl
      go_wp2
      go_loopw [49] (fun j wi => ∃ m : Nat, m ≤ q.length ∧ j = .int .i64 (m : Int) ∧ RowKit.Hid (LnB w.heap.size gl (lns c p n m) wi) ∧ RowKit.Hid (Below w.heap.size w wi) ∧ RowKit.Hid (Bk wi w.heap.size (sC c (.slice (some ⟨b, off, none⟩) p.length cp) (.slice ak k.length ck)) 34)) (fun j _ => q.length - (intOf j).toNat)
      case atStart => exact ⟨0, Nat.zero_le _, rfl, HLN, HW, HX⟩
      case round =>
        obtain ⟨m, hm, rfl, HLM, HV, HY⟩ := hrel
        by_cases hltm : m < q.length
        · rcases HRU.out with hru | ⟨bu, ou, rfl, hbu, hcl⟩
          · rw [hru] at hltm; cases hltm
          have HRG : RowKit.Hid (wr.rangeAt bu (ou + m * 7) (opC q[m]).toList) := Lib.hid (fun j v hv => (HV.out.cell (p := ⟨bu, _, none⟩) hbu).trans (hcl m hltm j v hv))
          have hro : right q[m] = true := by
            have h := (HR5.out p[n] (List.getElem_mem hlt)).2
            rw [← HQ.out] at h
            exact h _ (List.getElem_mem hltm)
          have hfo : q[m].Fits := by
            have h := HFT.out p[n] (List.getElem_mem hlt)
            rw [← HQ.out] at h
            exact h _ (List.getElem_mem hltm)
          have HNX : RowKit.Hid (lns c p n (m + 1) = lns c p n m ++ [doL n q[m]]) := Lib.hid (by
            have hqd := HQD.out
            subst hqd
            exact lns_op c p n m hltm)
          obtain ⟨o, ho⟩ : ∃ o, o = q[m] := ⟨_, rfl⟩
          rw [← ho] at hro hfo HRG HNX
          have Z := Bk.new wr (opC OpD.zero) 50
          have BO := boxO wr o
          have bb := boxO_below wr o
          obtain ⟨w7, hw7⟩ : ∃ q, q = (wr.alloc (.cells (opC OpD.zero) 50)).setRow wr.heap.size (opC o) := ⟨_, rfl⟩
          rw [← hw7] at BO bb
          have HB7 := Lib.hid (HV.out.trans (bb.mono HV.out.size))
          have HT := Opw.fText o hfo w7 (HL.out.keep HB7.out)
          rw [if_pos hro, if_pos hro] at HT
          have htl := text_len hfo
          obtain ⟨tt, htt⟩ : ∃ q, q = text o := ⟨_, rfl⟩
          rw [← htt] at HT htl
          have HTX7 := Lib.hid HT
          have HLM7 := Lib.hid (HLM.out.keep bb)
          have HX7 := Lib.hid (HY.out.keep bb)
          have HTT := Lib.hid htt
          have HBO := Lib.hid BO
          clear bb HT htt hfo hro BO ho hcl
          go_wp2_with (first | (refine wpList_load_mid rfl 50 _ rfl bu (ou + m * 7) rfl (opC o).toList _ (by exact HRG.out) Tryz.underlying50 rfl (by kernel_rfl) ?_) | (refine wpList_alloc_op0 rfl rfl ?_) | (refine wpList_store_row rfl 50 _ _ rfl wr.heap.size (opC o) rfl rfl _ _ (by exact Z) (by kernel_rfl) (by kernel_rfl) (by kernel_rfl) ?_; rw [← hw7]; clear hw7 Z) | (refine wpList_load_row rfl 50 _ rfl wr.heap.size rfl _ (opC o) (0, 0) _ (by exact HBO.out) Tryz.underlying50 rfl (by kernel_rfl) ?_))
          refine HTX7.out.mono ?_
          rintro e w8 ⟨rfl, hb8⟩
          have HB8 := Lib.hid (HB7.out.trans (hb8.mono HB7.out.size))
          have HLN8 := Lib.hid (HLM7.out.keep hb8)
          have HX8 := Lib.hid (HX7.out.keep hb8)
          clear hb8
          go_upto_region 12 with fail
          have hN2 := lns_len c p n m hpl (fun l hl => (HR5.out l hl).1)
          obtain ⟨al, cl, BL, OL⟩ := HLN8.out
          obtain ⟨N, hN⟩ : ∃ N, N = (lns c p n m).length := ⟨_, rfl⟩
          rw [← hN] at BL hN2
          have OL2 : w8.ownsRow w.heap.size 9 1 (.slice al N cl) N ((lns c p n m).map strV) := owns_len (by have h := OL; rw [← hN] at h; exact h) hN.symm rfl
          have HN8 := Lib.hid hN
          have zb0 : Below w8.heap.size w8 w8.drew := (Below.refl _ _).drew
          have hn8 : (n : Int) ≤ 9223372036854775807 := by omega
          clear OL hN HLN8 HLM7 HX7
          refine wp_region_noPanic ?_
          refine wp_region_held_drew (S := fun _ => True) (by kernel_rfl) trivial (fun hHeld => ?_)
          generalize w8.drew = z0 at *
          refine wpAnyH_take (i := 1) (oi := _) (v := .int .i64 (n : Int)) rfl (by kernel_rfl) (by kernel_rfl) (by kernel_rfl) (fun _ _ _ h => h) (Or.inl ⟨by rfl, fun w' hSw => by go_simp⟩) hHeld ?_
          try simp only [Act.put, List.getElem_toArray, List.getElem_cons_succ, List.getElem_cons_zero, List.setIfInBounds_toArray, List.set_cons_succ, List.set_cons_zero]
          refine wpAnyH_take (i := 6) (oi := _) (v := .string ⟨tt.toArray⟩) rfl (by kernel_rfl) (by kernel_rfl) (by kernel_rfl) (fun _ _ _ h => h) (Or.inl ⟨by rfl, fun w' hSw => by go_simp⟩) hHeld ?_
          try simp only [Act.put, List.getElem_toArray, List.getElem_cons_succ, List.getElem_cons_zero, List.setIfInBounds_toArray, List.set_cons_succ, List.set_cons_zero]
          refine wpAnyH_ready (rs := [0, 2]) (by kernel_rfl) (by simp) ?_
          refine AllReadyH.cons (o := _) rfl (fun K hK => ?_) (AllReadyH.cons (o := _) rfl (fun K hK => ?_) AllReadyH.nil)
          · have c0 : z0.cell? ⟨gl, 0, none⟩ = some (.slice al N cl) := (BL.keep zb0).cells 0
            go_simp
            refine hK.out _ _ trivial (fun hHeld => ?_)
            clear hK K c0
            try simp only [Act.put, List.getElem_toArray, List.getElem_cons_succ, List.getElem_cons_zero, List.setIfInBounds_toArray, List.set_cons_succ, List.set_cons_zero]
            refine wpAnyH_ready (rs := [2]) (by kernel_rfl) (by simp) ?_
            refine AllReadyH.cons (o := _) rfl (fun K hK => ?_) AllReadyH.nil
            go_simp
            have R1 : Reads (z0.alloc (.cells #[.int .i64 (n : Int)] 3)) .i64 (.slice (some ⟨z0.heap.size, 0, none⟩) 1 1) [(n : Int)] := Reads.of_bk (l := [(n : Int)]) (t := 3) (Bk.new z0 _ _) (by show 1 ≤ maxLen; decide)
            have zb1 := zb0.alloc zb0.size (.cells #[.int .i64 (n : Int)] 3)
            have HF := Lib.hid (fNumsText [(n : Int)] (by show 1 ≤ 1000; decide) (fun k hk => by rw [List.mem_singleton.1 hk]; exact ⟨by omega, hn8⟩) _ _ (HL.out.keep (HB8.out.trans (zb1.mono HB8.out.size))) R1)
            obtain ⟨z1, hz1⟩ : ∃ u, u = z0.alloc (.cells #[.int .i64 (n : Int)] 3) := ⟨_, rfl⟩
            rw [← hz1] at zb1 HF ⊢
            have hnt := numsT_len [(n : Int)] (fun k hk => by rw [List.mem_singleton.1 hk]; exact ⟨by omega, hn8⟩)
            have e1 : [(n : Int)].length = 1 := rfl
            rw [e1] at hnt
            obtain ⟨t9, ht9⟩ : ∃ q, q = numsT [(n : Int)] := ⟨_, rfl⟩
            rw [← ht9] at HF hnt
            have HT9 := Lib.hid ht9
            clear hz1 R1 ht9 e1
            refine hK.out _ _ trivial (fun hHeld => ?_)
            clear hK K
            try simp only [Act.put, List.getElem_toArray, List.getElem_cons_succ, List.getElem_cons_zero, List.setIfInBounds_toArray, List.set_cons_succ, List.set_cons_zero]
            refine wpAnyH_ready (rs := [3]) (by kernel_rfl) (by simp) ?_
            refine AllReadyH.cons (o := _) rfl (fun K hK => ?_) AllReadyH.nil
            go_simp
            refine HF.out.mono ?_
            rintro en z3 ⟨rfl, hb9⟩
            have zb3 := zb1.trans (hb9.mono zb1.size)
            refine hK.out _ _ trivial (fun hHeld => ?_)
            clear hK K hb9
            try simp only [Act.put, List.getElem_toArray, List.getElem_cons_succ, List.getElem_cons_zero, List.setIfInBounds_toArray, List.set_cons_succ, List.set_cons_zero]
            refine wpAnyH_take (i := 4) (oi := _) (v := .string (⟨#[100, 111]⟩ ++ ⟨t9.toArray⟩)) rfl (by kernel_rfl) (by kernel_rfl) (by kernel_rfl) (fun _ _ _ h => h) (Or.inl ⟨by rfl, fun w' hSw => by go_simp; omega⟩) hHeld ?_
            try simp only [Act.put, List.getElem_toArray, List.getElem_cons_succ, List.getElem_cons_zero, List.setIfInBounds_toArray, List.set_cons_succ, List.set_cons_zero]
            refine wpAnyH_take (i := 5) (oi := _) (v := .string ((⟨#[100, 111]⟩ ++ ⟨t9.toArray⟩) ++ ⟨#[32]⟩)) rfl (by kernel_rfl) (by kernel_rfl) (by kernel_rfl) (fun _ _ _ h => h) (Or.inl ⟨by rfl, fun w' hSw => by go_simp; omega⟩) hHeld ?_
            try simp only [Act.put, List.getElem_toArray, List.getElem_cons_succ, List.getElem_cons_zero, List.setIfInBounds_toArray, List.set_cons_succ, List.set_cons_zero]
            refine wpAnyH_take (i := 7) (oi := _) (v := .string (((⟨#[100, 111]⟩ ++ ⟨t9.toArray⟩) ++ ⟨#[32]⟩) ++ ⟨tt.toArray⟩ : ByteArray)) rfl (by kernel_rfl) (by kernel_rfl) (by kernel_rfl) (fun _ _ _ h => h) (Or.inl ⟨by rfl, fun w' hSw => by go_simp; omega⟩) hHeld ?_
            try simp only [Act.put, List.getElem_toArray, List.getElem_cons_succ, List.getElem_cons_zero, List.setIfInBounds_toArray, List.set_cons_succ, List.set_cons_zero]
            refine wpAnyH_ready (rs := [8]) (by kernel_rfl) (by simp) ?_
            refine AllReadyH.cons (o := _) rfl (fun K hK => ?_) AllReadyH.nil
            go_simp
            obtain ⟨ln, hln⟩ : ∃ q : ByteArray, q = (((⟨#[100, 111]⟩ ++ ⟨t9.toArray⟩) ++ ⟨#[32]⟩) ++ ⟨tt.toArray⟩ : ByteArray) := ⟨_, rfl⟩
            rw [← hln]
            have HLI := Lib.hid hln
            clear hln
            have zb8 := zb3.alloc zb3.size (.cells #[.string ln] 9)
            have nb8 : ∀ j, j < [Value.string ln].length → (z3.alloc (.cells #[.string ln] 9)).cell? ⟨z3.heap.size, j, none⟩ = [Value.string ln][j]? := new_cells z3 #[.string ln] 9
            obtain ⟨gn, hgn⟩ : ∃ q, q = z3.heap.size := ⟨_, rfl⟩
            obtain ⟨z8, hz8⟩ : ∃ u, u = z3.alloc (.cells #[.string ln] 9) := ⟨_, rfl⟩
            rw [← hz8] at zb8 nb8 ⊢
            rw [← hgn] at nb8 ⊢
            clear hz8 hgn
            refine hK.out _ _ trivial (fun hHeld => ?_)
            clear hK K
            try simp only [Act.put, List.getElem_toArray, List.getElem_cons_succ, List.getElem_cons_zero, List.setIfInBounds_toArray, List.set_cons_succ, List.set_cons_zero]
            refine wpAnyH_ready (rs := [9]) (by kernel_rfl) (by simp) ?_
            refine AllReadyH.cons (o := _) rfl (fun K hK => ?_) AllReadyH.nil
            have OZ := owns_below OL2 zb8 (fun g hg => (World.ownsRow.lt OL2 g hg).2)
            have szw := HB8.out.size
            have szz := zb8.size
            refine step_append elemStr rfl (.tmp 58) (.tmp 66) rfl w.heap.size (.slice al N cl) N ((lns c p n m).map strV) rfl (by exact OZ) gn 1 1 [.string ln] rfl rfl nb8 (by intro u hu; rw [List.mem_singleton.1 hu]; rfl) (by omega) (by omega) ?_
            intro v7 z9 O9 G9 A9
            have BZ : Bk z8 gl #[.slice al N cl] 45 := BL.keep zb8
            have hne : some gl ≠ (Value.slice al N cl).ownBlock := fun e => bk_row BZ OZ (by decide) e.symm
            have B9 : Bk z9 gl #[.slice al N cl] 45 := (G9.block gl BZ.lt hne).trans BZ
            have HX9 : RowKit.Hid (Bk z9 w.heap.size (sC c (.slice (some ⟨b, off, none⟩) p.length cp) (.slice ak k.length ck)) 34) := Lib.hid ((G9.block w.heap.size (HX8.out.keep zb8).lt (fun e => bk_row (HX8.out.keep zb8) OZ (by decide) e.symm)).trans (HX8.out.keep zb8))
            have HB9 : RowKit.Hid (Below w.heap.size w z9) := Lib.hid (HB8.out.trans ((zb8.mono szw).trans ((Below.refl _ _).grown G9 (by omega) (fun k hk => (World.ownsRow.lt OZ k hk).1))))
            obtain ⟨a7, c7, rfl, hc7, hm7⟩ := own_slice O9
            have HO9 := Lib.hid O9
            have c9 : z9.cell? ⟨gl, 0, none⟩ = some (.slice al N cl) := B9.cells 0
            have f9 := B9.frozen 0
            have l9 := B9.lt
            refine hK.out _ _ trivial (fun hHeld => ?_)
            clear hK K nb8 G9 A9 BZ hne OZ O9
            try simp only [Act.put, List.getElem_toArray, List.getElem_cons_succ, List.getElem_cons_zero, List.setIfInBounds_toArray, List.set_cons_succ, List.set_cons_zero]
            refine wpAnyH_ready (rs := [10]) (by kernel_rfl) (by simp) ?_
            refine AllReadyH.cons (o := _) rfl (fun K hK => ?_) AllReadyH.nil
            go_simp
            refine hK.out _ _ trivial (fun hHeld => ?_)
            clear hK K
            try simp only [Act.put, List.getElem_toArray, List.getElem_cons_succ, List.getElem_cons_zero, List.setIfInBounds_toArray, List.set_cons_succ, List.set_cons_zero]
            refine wpAnyH_done (by kernel_rfl) ?_ _
            refine NoPanic.normal ?_
            have HLN9 : RowKit.Hid (LnB w.heap.size gl (lns c p n (m + 1)) (z9.setCell ⟨gl, 0, none⟩ (.slice a7 (N + 1) c7))) := Lib.hid (by
              have hlen : (lns c p n (m + 1)).length = N + 1 := by rw [HNX.out, List.length_append, ← HN8.out]; rfl
              have el : ln = ⟨(doL n o).toArray⟩ := by
                rw [HLI.out, HT9.out, HTT.out]
                apply ByteArray.ext
                simp [doL, numsT]
              refine ⟨a7, c7, ?_, ?_⟩
              · rw [hlen]; exact B9.setCell 0 _
              · unfold OwnS
                rw [hlen]
                refine own_same (owns_len HO9.out rfl ?_) (fun g hg => heap_setCell_other z9 ⟨gl, 0, none⟩ g _ (fun e => bk_row B9 HO9.out (by decide) (by rw [hg, e])))
                rw [HNX.out, List.map_append, el]
                rfl)
            have HB10 : RowKit.Hid (Below w.heap.size w (z9.setCell ⟨gl, 0, none⟩ (.slice a7 (N + 1) c7))) := Lib.hid (HB9.out.setCell (p := ⟨gl, 0, none⟩) (by have := HGL.out; simp; omega) _)
            have HX10 : RowKit.Hid (Bk (z9.setCell ⟨gl, 0, none⟩ (.slice a7 (N + 1) c7)) w.heap.size (sC c (.slice (some ⟨b, off, none⟩) p.length cp) (.slice ak k.length ck)) 34) := Lib.hid (HX9.out.setCell_far (by have := HGL.out; simp; omega) _)
            clear B9 c9 f9 l9 BL OL2
            go_wp2
            go_roundw
            case rel => exact ⟨m + 1, by omega, by go_num, HLN9, HB10, HX10⟩
            case measure => simp [intOf]; omega
          · go_simp
            have R1 : Reads (z0.alloc (.cells #[.int .i64 (n : Int)] 3)) .i64 (.slice (some ⟨z0.heap.size, 0, none⟩) 1 1) [(n : Int)] := Reads.of_bk (l := [(n : Int)]) (t := 3) (Bk.new z0 _ _) (by show 1 ≤ maxLen; decide)
            have zb1 := zb0.alloc zb0.size (.cells #[.int .i64 (n : Int)] 3)
            have HF := Lib.hid (fNumsText [(n : Int)] (by show 1 ≤ 1000; decide) (fun k hk => by rw [List.mem_singleton.1 hk]; exact ⟨by omega, hn8⟩) _ _ (HL.out.keep (HB8.out.trans (zb1.mono HB8.out.size))) R1)
            obtain ⟨z1, hz1⟩ : ∃ u, u = z0.alloc (.cells #[.int .i64 (n : Int)] 3) := ⟨_, rfl⟩
            rw [← hz1] at zb1 HF ⊢
            have hnt := numsT_len [(n : Int)] (fun k hk => by rw [List.mem_singleton.1 hk]; exact ⟨by omega, hn8⟩)
            have e1 : [(n : Int)].length = 1 := rfl
            rw [e1] at hnt
            obtain ⟨t9, ht9⟩ : ∃ q, q = numsT [(n : Int)] := ⟨_, rfl⟩
            rw [← ht9] at HF hnt
            have HT9 := Lib.hid ht9
            clear hz1 R1 ht9 e1
            refine hK.out _ _ trivial (fun hHeld => ?_)
            clear hK K
            try simp only [Act.put, List.getElem_toArray, List.getElem_cons_succ, List.getElem_cons_zero, List.setIfInBounds_toArray, List.set_cons_succ, List.set_cons_zero]
            refine wpAnyH_ready (rs := [0, 3]) (by kernel_rfl) (by simp) ?_
            refine AllReadyH.cons (o := _) rfl (fun K hK => ?_) (AllReadyH.cons (o := _) rfl (fun K hK => ?_) AllReadyH.nil)
            · have c0 : z1.cell? ⟨gl, 0, none⟩ = some (.slice al N cl) := (BL.keep zb1).cells 0
              go_simp
              refine hK.out _ _ trivial (fun hHeld => ?_)
              clear hK K c0
              try simp only [Act.put, List.getElem_toArray, List.getElem_cons_succ, List.getElem_cons_zero, List.setIfInBounds_toArray, List.set_cons_succ, List.set_cons_zero]
              refine wpAnyH_ready (rs := [3]) (by kernel_rfl) (by simp) ?_
              refine AllReadyH.cons (o := _) rfl (fun K hK => ?_) AllReadyH.nil
              go_simp
              refine HF.out.mono ?_
              rintro en z3 ⟨rfl, hb9⟩
              have zb3 := zb1.trans (hb9.mono zb1.size)
              refine hK.out _ _ trivial (fun hHeld => ?_)
              clear hK K hb9
              try simp only [Act.put, List.getElem_toArray, List.getElem_cons_succ, List.getElem_cons_zero, List.setIfInBounds_toArray, List.set_cons_succ, List.set_cons_zero]
              refine wpAnyH_take (i := 4) (oi := _) (v := .string (⟨#[100, 111]⟩ ++ ⟨t9.toArray⟩)) rfl (by kernel_rfl) (by kernel_rfl) (by kernel_rfl) (fun _ _ _ h => h) (Or.inl ⟨by rfl, fun w' hSw => by go_simp; omega⟩) hHeld ?_
              try simp only [Act.put, List.getElem_toArray, List.getElem_cons_succ, List.getElem_cons_zero, List.setIfInBounds_toArray, List.set_cons_succ, List.set_cons_zero]
              refine wpAnyH_take (i := 5) (oi := _) (v := .string ((⟨#[100, 111]⟩ ++ ⟨t9.toArray⟩) ++ ⟨#[32]⟩)) rfl (by kernel_rfl) (by kernel_rfl) (by kernel_rfl) (fun _ _ _ h => h) (Or.inl ⟨by rfl, fun w' hSw => by go_simp; omega⟩) hHeld ?_
              try simp only [Act.put, List.getElem_toArray, List.getElem_cons_succ, List.getElem_cons_zero, List.setIfInBounds_toArray, List.set_cons_succ, List.set_cons_zero]
              refine wpAnyH_take (i := 7) (oi := _) (v := .string (((⟨#[100, 111]⟩ ++ ⟨t9.toArray⟩) ++ ⟨#[32]⟩) ++ ⟨tt.toArray⟩ : ByteArray)) rfl (by kernel_rfl) (by kernel_rfl) (by kernel_rfl) (fun _ _ _ h => h) (Or.inl ⟨by rfl, fun w' hSw => by go_simp; omega⟩) hHeld ?_
              try simp only [Act.put, List.getElem_toArray, List.getElem_cons_succ, List.getElem_cons_zero, List.setIfInBounds_toArray, List.set_cons_succ, List.set_cons_zero]
              refine wpAnyH_ready (rs := [8]) (by kernel_rfl) (by simp) ?_
              refine AllReadyH.cons (o := _) rfl (fun K hK => ?_) AllReadyH.nil
              go_simp
              obtain ⟨ln, hln⟩ : ∃ q : ByteArray, q = (((⟨#[100, 111]⟩ ++ ⟨t9.toArray⟩) ++ ⟨#[32]⟩) ++ ⟨tt.toArray⟩ : ByteArray) := ⟨_, rfl⟩
              rw [← hln]
              have HLI := Lib.hid hln
              clear hln
              have zb8 := zb3.alloc zb3.size (.cells #[.string ln] 9)
              have nb8 : ∀ j, j < [Value.string ln].length → (z3.alloc (.cells #[.string ln] 9)).cell? ⟨z3.heap.size, j, none⟩ = [Value.string ln][j]? := new_cells z3 #[.string ln] 9
              obtain ⟨gn, hgn⟩ : ∃ q, q = z3.heap.size := ⟨_, rfl⟩
              obtain ⟨z8, hz8⟩ : ∃ u, u = z3.alloc (.cells #[.string ln] 9) := ⟨_, rfl⟩
              rw [← hz8] at zb8 nb8 ⊢
              rw [← hgn] at nb8 ⊢
              clear hz8 hgn
              refine hK.out _ _ trivial (fun hHeld => ?_)
              clear hK K
              try simp only [Act.put, List.getElem_toArray, List.getElem_cons_succ, List.getElem_cons_zero, List.setIfInBounds_toArray, List.set_cons_succ, List.set_cons_zero]
              refine wpAnyH_ready (rs := [9]) (by kernel_rfl) (by simp) ?_
              refine AllReadyH.cons (o := _) rfl (fun K hK => ?_) AllReadyH.nil
              have OZ := owns_below OL2 zb8 (fun g hg => (World.ownsRow.lt OL2 g hg).2)
              have szw := HB8.out.size
              have szz := zb8.size
              refine step_append elemStr rfl (.tmp 58) (.tmp 66) rfl w.heap.size (.slice al N cl) N ((lns c p n m).map strV) rfl (by exact OZ) gn 1 1 [.string ln] rfl rfl nb8 (by intro u hu; rw [List.mem_singleton.1 hu]; rfl) (by omega) (by omega) ?_
              intro v7 z9 O9 G9 A9
              have BZ : Bk z8 gl #[.slice al N cl] 45 := BL.keep zb8
              have hne : some gl ≠ (Value.slice al N cl).ownBlock := fun e => bk_row BZ OZ (by decide) e.symm
              have B9 : Bk z9 gl #[.slice al N cl] 45 := (G9.block gl BZ.lt hne).trans BZ
              have HX9 : RowKit.Hid (Bk z9 w.heap.size (sC c (.slice (some ⟨b, off, none⟩) p.length cp) (.slice ak k.length ck)) 34) := Lib.hid ((G9.block w.heap.size (HX8.out.keep zb8).lt (fun e => bk_row (HX8.out.keep zb8) OZ (by decide) e.symm)).trans (HX8.out.keep zb8))
              have HB9 : RowKit.Hid (Below w.heap.size w z9) := Lib.hid (HB8.out.trans ((zb8.mono szw).trans ((Below.refl _ _).grown G9 (by omega) (fun k hk => (World.ownsRow.lt OZ k hk).1))))
              obtain ⟨a7, c7, rfl, hc7, hm7⟩ := own_slice O9
              have HO9 := Lib.hid O9
              have c9 : z9.cell? ⟨gl, 0, none⟩ = some (.slice al N cl) := B9.cells 0
              have f9 := B9.frozen 0
              have l9 := B9.lt
              refine hK.out _ _ trivial (fun hHeld => ?_)
              clear hK K nb8 G9 A9 BZ hne OZ O9
              try simp only [Act.put, List.getElem_toArray, List.getElem_cons_succ, List.getElem_cons_zero, List.setIfInBounds_toArray, List.set_cons_succ, List.set_cons_zero]
              refine wpAnyH_ready (rs := [10]) (by kernel_rfl) (by simp) ?_
              refine AllReadyH.cons (o := _) rfl (fun K hK => ?_) AllReadyH.nil
              go_simp
              refine hK.out _ _ trivial (fun hHeld => ?_)
              clear hK K
              try simp only [Act.put, List.getElem_toArray, List.getElem_cons_succ, List.getElem_cons_zero, List.setIfInBounds_toArray, List.set_cons_succ, List.set_cons_zero]
              refine wpAnyH_done (by kernel_rfl) ?_ _
              refine NoPanic.normal ?_
              have HLN9 : RowKit.Hid (LnB w.heap.size gl (lns c p n (m + 1)) (z9.setCell ⟨gl, 0, none⟩ (.slice a7 (N + 1) c7))) := Lib.hid (by
                have hlen : (lns c p n (m + 1)).length = N + 1 := by rw [HNX.out, List.length_append, ← HN8.out]; rfl
                have el : ln = ⟨(doL n o).toArray⟩ := by
                  rw [HLI.out, HT9.out, HTT.out]
                  apply ByteArray.ext
                  simp [doL, numsT]
                refine ⟨a7, c7, ?_, ?_⟩
                · rw [hlen]; exact B9.setCell 0 _
                · unfold OwnS
                  rw [hlen]
                  refine own_same (owns_len HO9.out rfl ?_) (fun g hg => heap_setCell_other z9 ⟨gl, 0, none⟩ g _ (fun e => bk_row B9 HO9.out (by decide) (by rw [hg, e])))
                  rw [HNX.out, List.map_append, el]
                  rfl)
              have HB10 : RowKit.Hid (Below w.heap.size w (z9.setCell ⟨gl, 0, none⟩ (.slice a7 (N + 1) c7))) := Lib.hid (HB9.out.setCell (p := ⟨gl, 0, none⟩) (by have := HGL.out; simp; omega) _)
              have HX10 : RowKit.Hid (Bk (z9.setCell ⟨gl, 0, none⟩ (.slice a7 (N + 1) c7)) w.heap.size (sC c (.slice (some ⟨b, off, none⟩) p.length cp) (.slice ak k.length ck)) 34) := Lib.hid (HX9.out.setCell_far (by have := HGL.out; simp; omega) _)
              clear B9 c9 f9 l9 BL OL2
              go_wp2
              go_roundw
              case rel => exact ⟨m + 1, by omega, by go_num, HLN9, HB10, HX10⟩
              case measure => simp [intOf]; omega
            · go_simp
              refine HF.out.mono ?_
              rintro en z3 ⟨rfl, hb9⟩
              have zb3 := zb1.trans (hb9.mono zb1.size)
              refine hK.out _ _ trivial (fun hHeld => ?_)
              clear hK K hb9
              try simp only [Act.put, List.getElem_toArray, List.getElem_cons_succ, List.getElem_cons_zero, List.setIfInBounds_toArray, List.set_cons_succ, List.set_cons_zero]
              refine wpAnyH_take (i := 4) (oi := _) (v := .string (⟨#[100, 111]⟩ ++ ⟨t9.toArray⟩)) rfl (by kernel_rfl) (by kernel_rfl) (by kernel_rfl) (fun _ _ _ h => h) (Or.inl ⟨by rfl, fun w' hSw => by go_simp; omega⟩) hHeld ?_
              try simp only [Act.put, List.getElem_toArray, List.getElem_cons_succ, List.getElem_cons_zero, List.setIfInBounds_toArray, List.set_cons_succ, List.set_cons_zero]
              refine wpAnyH_take (i := 5) (oi := _) (v := .string ((⟨#[100, 111]⟩ ++ ⟨t9.toArray⟩) ++ ⟨#[32]⟩)) rfl (by kernel_rfl) (by kernel_rfl) (by kernel_rfl) (fun _ _ _ h => h) (Or.inl ⟨by rfl, fun w' hSw => by go_simp; omega⟩) hHeld ?_
              try simp only [Act.put, List.getElem_toArray, List.getElem_cons_succ, List.getElem_cons_zero, List.setIfInBounds_toArray, List.set_cons_succ, List.set_cons_zero]
              refine wpAnyH_take (i := 7) (oi := _) (v := .string (((⟨#[100, 111]⟩ ++ ⟨t9.toArray⟩) ++ ⟨#[32]⟩) ++ ⟨tt.toArray⟩ : ByteArray)) rfl (by kernel_rfl) (by kernel_rfl) (by kernel_rfl) (fun _ _ _ h => h) (Or.inl ⟨by rfl, fun w' hSw => by go_simp; omega⟩) hHeld ?_
              try simp only [Act.put, List.getElem_toArray, List.getElem_cons_succ, List.getElem_cons_zero, List.setIfInBounds_toArray, List.set_cons_succ, List.set_cons_zero]
              refine wpAnyH_ready (rs := [0, 8]) (by kernel_rfl) (by simp) ?_
              refine AllReadyH.cons (o := _) rfl (fun K hK => ?_) (AllReadyH.cons (o := _) rfl (fun K hK => ?_) AllReadyH.nil)
              · have c0 : z3.cell? ⟨gl, 0, none⟩ = some (.slice al N cl) := (BL.keep zb3).cells 0
                go_simp
                refine hK.out _ _ trivial (fun hHeld => ?_)
                clear hK K c0
                try simp only [Act.put, List.getElem_toArray, List.getElem_cons_succ, List.getElem_cons_zero, List.setIfInBounds_toArray, List.set_cons_succ, List.set_cons_zero]
                refine wpAnyH_ready (rs := [8]) (by kernel_rfl) (by simp) ?_
                refine AllReadyH.cons (o := _) rfl (fun K hK => ?_) AllReadyH.nil
                go_simp
                obtain ⟨ln, hln⟩ : ∃ q : ByteArray, q = (((⟨#[100, 111]⟩ ++ ⟨t9.toArray⟩) ++ ⟨#[32]⟩) ++ ⟨tt.toArray⟩ : ByteArray) := ⟨_, rfl⟩
                rw [← hln]
                have HLI := Lib.hid hln
                clear hln
                have zb8 := zb3.alloc zb3.size (.cells #[.string ln] 9)
                have nb8 : ∀ j, j < [Value.string ln].length → (z3.alloc (.cells #[.string ln] 9)).cell? ⟨z3.heap.size, j, none⟩ = [Value.string ln][j]? := new_cells z3 #[.string ln] 9
                obtain ⟨gn, hgn⟩ : ∃ q, q = z3.heap.size := ⟨_, rfl⟩
                obtain ⟨z8, hz8⟩ : ∃ u, u = z3.alloc (.cells #[.string ln] 9) := ⟨_, rfl⟩
                rw [← hz8] at zb8 nb8 ⊢
                rw [← hgn] at nb8 ⊢
                clear hz8 hgn
                refine hK.out _ _ trivial (fun hHeld => ?_)
                clear hK K
                try simp only [Act.put, List.getElem_toArray, List.getElem_cons_succ, List.getElem_cons_zero, List.setIfInBounds_toArray, List.set_cons_succ, List.set_cons_zero]
                refine wpAnyH_ready (rs := [9]) (by kernel_rfl) (by simp) ?_
                refine AllReadyH.cons (o := _) rfl (fun K hK => ?_) AllReadyH.nil
                have OZ := owns_below OL2 zb8 (fun g hg => (World.ownsRow.lt OL2 g hg).2)
                have szw := HB8.out.size
                have szz := zb8.size
                refine step_append elemStr rfl (.tmp 58) (.tmp 66) rfl w.heap.size (.slice al N cl) N ((lns c p n m).map strV) rfl (by exact OZ) gn 1 1 [.string ln] rfl rfl nb8 (by intro u hu; rw [List.mem_singleton.1 hu]; rfl) (by omega) (by omega) ?_
                intro v7 z9 O9 G9 A9
                have BZ : Bk z8 gl #[.slice al N cl] 45 := BL.keep zb8
                have hne : some gl ≠ (Value.slice al N cl).ownBlock := fun e => bk_row BZ OZ (by decide) e.symm
                have B9 : Bk z9 gl #[.slice al N cl] 45 := (G9.block gl BZ.lt hne).trans BZ
                have HX9 : RowKit.Hid (Bk z9 w.heap.size (sC c (.slice (some ⟨b, off, none⟩) p.length cp) (.slice ak k.length ck)) 34) := Lib.hid ((G9.block w.heap.size (HX8.out.keep zb8).lt (fun e => bk_row (HX8.out.keep zb8) OZ (by decide) e.symm)).trans (HX8.out.keep zb8))
                have HB9 : RowKit.Hid (Below w.heap.size w z9) := Lib.hid (HB8.out.trans ((zb8.mono szw).trans ((Below.refl _ _).grown G9 (by omega) (fun k hk => (World.ownsRow.lt OZ k hk).1))))
                obtain ⟨a7, c7, rfl, hc7, hm7⟩ := own_slice O9
                have HO9 := Lib.hid O9
                have c9 : z9.cell? ⟨gl, 0, none⟩ = some (.slice al N cl) := B9.cells 0
                have f9 := B9.frozen 0
                have l9 := B9.lt
                refine hK.out _ _ trivial (fun hHeld => ?_)
                clear hK K nb8 G9 A9 BZ hne OZ O9
                try simp only [Act.put, List.getElem_toArray, List.getElem_cons_succ, List.getElem_cons_zero, List.setIfInBounds_toArray, List.set_cons_succ, List.set_cons_zero]
                refine wpAnyH_ready (rs := [10]) (by kernel_rfl) (by simp) ?_
                refine AllReadyH.cons (o := _) rfl (fun K hK => ?_) AllReadyH.nil
                go_simp
                refine hK.out _ _ trivial (fun hHeld => ?_)
                clear hK K
                try simp only [Act.put, List.getElem_toArray, List.getElem_cons_succ, List.getElem_cons_zero, List.setIfInBounds_toArray, List.set_cons_succ, List.set_cons_zero]
                refine wpAnyH_done (by kernel_rfl) ?_ _
                refine NoPanic.normal ?_
                have HLN9 : RowKit.Hid (LnB w.heap.size gl (lns c p n (m + 1)) (z9.setCell ⟨gl, 0, none⟩ (.slice a7 (N + 1) c7))) := Lib.hid (by
                  have hlen : (lns c p n (m + 1)).length = N + 1 := by rw [HNX.out, List.length_append, ← HN8.out]; rfl
                  have el : ln = ⟨(doL n o).toArray⟩ := by
                    rw [HLI.out, HT9.out, HTT.out]
                    apply ByteArray.ext
                    simp [doL, numsT]
                  refine ⟨a7, c7, ?_, ?_⟩
                  · rw [hlen]; exact B9.setCell 0 _
                  · unfold OwnS
                    rw [hlen]
                    refine own_same (owns_len HO9.out rfl ?_) (fun g hg => heap_setCell_other z9 ⟨gl, 0, none⟩ g _ (fun e => bk_row B9 HO9.out (by decide) (by rw [hg, e])))
                    rw [HNX.out, List.map_append, el]
                    rfl)
                have HB10 : RowKit.Hid (Below w.heap.size w (z9.setCell ⟨gl, 0, none⟩ (.slice a7 (N + 1) c7))) := Lib.hid (HB9.out.setCell (p := ⟨gl, 0, none⟩) (by have := HGL.out; simp; omega) _)
                have HX10 : RowKit.Hid (Bk (z9.setCell ⟨gl, 0, none⟩ (.slice a7 (N + 1) c7)) w.heap.size (sC c (.slice (some ⟨b, off, none⟩) p.length cp) (.slice ak k.length ck)) 34) := Lib.hid (HX9.out.setCell_far (by have := HGL.out; simp; omega) _)
                clear B9 c9 f9 l9 BL OL2
                go_wp2
                go_roundw
                case rel => exact ⟨m + 1, by omega, by go_num, HLN9, HB10, HX10⟩
                case measure => simp [intOf]; omega
              · go_simp
                obtain ⟨ln, hln⟩ : ∃ q : ByteArray, q = (((⟨#[100, 111]⟩ ++ ⟨t9.toArray⟩) ++ ⟨#[32]⟩) ++ ⟨tt.toArray⟩ : ByteArray) := ⟨_, rfl⟩
                rw [← hln]
                have HLI := Lib.hid hln
                clear hln
                have zb8 := zb3.alloc zb3.size (.cells #[.string ln] 9)
                have nb8 : ∀ j, j < [Value.string ln].length → (z3.alloc (.cells #[.string ln] 9)).cell? ⟨z3.heap.size, j, none⟩ = [Value.string ln][j]? := new_cells z3 #[.string ln] 9
                obtain ⟨gn, hgn⟩ : ∃ q, q = z3.heap.size := ⟨_, rfl⟩
                obtain ⟨z8, hz8⟩ : ∃ u, u = z3.alloc (.cells #[.string ln] 9) := ⟨_, rfl⟩
                rw [← hz8] at zb8 nb8 ⊢
                rw [← hgn] at nb8 ⊢
                clear hz8 hgn
                refine hK.out _ _ trivial (fun hHeld => ?_)
                clear hK K
                try simp only [Act.put, List.getElem_toArray, List.getElem_cons_succ, List.getElem_cons_zero, List.setIfInBounds_toArray, List.set_cons_succ, List.set_cons_zero]
                refine wpAnyH_ready (rs := [0]) (by kernel_rfl) (by simp) ?_
                refine AllReadyH.cons (o := _) rfl (fun K hK => ?_) AllReadyH.nil
                have c0 : z8.cell? ⟨gl, 0, none⟩ = some (.slice al N cl) := (BL.keep zb8).cells 0
                go_simp
                refine hK.out _ _ trivial (fun hHeld => ?_)
                clear hK K c0
                try simp only [Act.put, List.getElem_toArray, List.getElem_cons_succ, List.getElem_cons_zero, List.setIfInBounds_toArray, List.set_cons_succ, List.set_cons_zero]
                refine wpAnyH_ready (rs := [9]) (by kernel_rfl) (by simp) ?_
                refine AllReadyH.cons (o := _) rfl (fun K hK => ?_) AllReadyH.nil
                have OZ := owns_below OL2 zb8 (fun g hg => (World.ownsRow.lt OL2 g hg).2)
                have szw := HB8.out.size
                have szz := zb8.size
                refine step_append elemStr rfl (.tmp 58) (.tmp 66) rfl w.heap.size (.slice al N cl) N ((lns c p n m).map strV) rfl (by exact OZ) gn 1 1 [.string ln] rfl rfl nb8 (by intro u hu; rw [List.mem_singleton.1 hu]; rfl) (by omega) (by omega) ?_
                intro v7 z9 O9 G9 A9
                have BZ : Bk z8 gl #[.slice al N cl] 45 := BL.keep zb8
                have hne : some gl ≠ (Value.slice al N cl).ownBlock := fun e => bk_row BZ OZ (by decide) e.symm
                have B9 : Bk z9 gl #[.slice al N cl] 45 := (G9.block gl BZ.lt hne).trans BZ
                have HX9 : RowKit.Hid (Bk z9 w.heap.size (sC c (.slice (some ⟨b, off, none⟩) p.length cp) (.slice ak k.length ck)) 34) := Lib.hid ((G9.block w.heap.size (HX8.out.keep zb8).lt (fun e => bk_row (HX8.out.keep zb8) OZ (by decide) e.symm)).trans (HX8.out.keep zb8))
                have HB9 : RowKit.Hid (Below w.heap.size w z9) := Lib.hid (HB8.out.trans ((zb8.mono szw).trans ((Below.refl _ _).grown G9 (by omega) (fun k hk => (World.ownsRow.lt OZ k hk).1))))
                obtain ⟨a7, c7, rfl, hc7, hm7⟩ := own_slice O9
                have HO9 := Lib.hid O9
                have c9 : z9.cell? ⟨gl, 0, none⟩ = some (.slice al N cl) := B9.cells 0
                have f9 := B9.frozen 0
                have l9 := B9.lt
                refine hK.out _ _ trivial (fun hHeld => ?_)
                clear hK K nb8 G9 A9 BZ hne OZ O9
                try simp only [Act.put, List.getElem_toArray, List.getElem_cons_succ, List.getElem_cons_zero, List.setIfInBounds_toArray, List.set_cons_succ, List.set_cons_zero]
                refine wpAnyH_ready (rs := [10]) (by kernel_rfl) (by simp) ?_
                refine AllReadyH.cons (o := _) rfl (fun K hK => ?_) AllReadyH.nil
                go_simp
                refine hK.out _ _ trivial (fun hHeld => ?_)
                clear hK K
                try simp only [Act.put, List.getElem_toArray, List.getElem_cons_succ, List.getElem_cons_zero, List.setIfInBounds_toArray, List.set_cons_succ, List.set_cons_zero]
                refine wpAnyH_done (by kernel_rfl) ?_ _
                refine NoPanic.normal ?_
                have HLN9 : RowKit.Hid (LnB w.heap.size gl (lns c p n (m + 1)) (z9.setCell ⟨gl, 0, none⟩ (.slice a7 (N + 1) c7))) := Lib.hid (by
                  have hlen : (lns c p n (m + 1)).length = N + 1 := by rw [HNX.out, List.length_append, ← HN8.out]; rfl
                  have el : ln = ⟨(doL n o).toArray⟩ := by
                    rw [HLI.out, HT9.out, HTT.out]
                    apply ByteArray.ext
                    simp [doL, numsT]
                  refine ⟨a7, c7, ?_, ?_⟩
                  · rw [hlen]; exact B9.setCell 0 _
                  · unfold OwnS
                    rw [hlen]
                    refine own_same (owns_len HO9.out rfl ?_) (fun g hg => heap_setCell_other z9 ⟨gl, 0, none⟩ g _ (fun e => bk_row B9 HO9.out (by decide) (by rw [hg, e])))
                    rw [HNX.out, List.map_append, el]
                    rfl)
                have HB10 : RowKit.Hid (Below w.heap.size w (z9.setCell ⟨gl, 0, none⟩ (.slice a7 (N + 1) c7))) := Lib.hid (HB9.out.setCell (p := ⟨gl, 0, none⟩) (by have := HGL.out; simp; omega) _)
                have HX10 : RowKit.Hid (Bk (z9.setCell ⟨gl, 0, none⟩ (.slice a7 (N + 1) c7)) w.heap.size (sC c (.slice (some ⟨b, off, none⟩) p.length cp) (.slice ak k.length ck)) 34) := Lib.hid (HX9.out.setCell_far (by have := HGL.out; simp; omega) _)
                clear B9 c9 f9 l9 BL OL2
                go_wp2
                go_roundw
                case rel => exact ⟨m + 1, by omega, by go_num, HLN9, HB10, HX10⟩
                case measure => simp [intOf]; omega
        · obtain rfl : m = q.length := by omega
          have hL : lns c p n q.length = lns c p (n + 1) 0 := by rw [lns_prog c p n hlt, HQD.out]
          have HLZ : RowKit.Hid (LnB w.heap.size gl (lns c p (n + 1) 0) wr) := Lib.hid (by rw [← hL]; exact HLM.out)
          clear hL HLM
          go_wp2
          go_roundw
          case rel => exact ⟨n + 1, by omega, by go_num, HLZ, HV, HY⟩
          case measure => simp [intOf]; omega
    · obtain rfl : n = p.length := by omega
      have HLD : RowKit.Hid (LnB w.heap.size gl (hallL c :: progL 0 p) wr) := Lib.hid (by have h := HLN.out; rw [lns_done] at h; exact h)
      have x7 := HX.out.cells
      have l7 := HX.out.lt
      have HCH := Lib.hid (fChunk ak k.length ck wr)
      have hk2 : k.length ≤ 2000 := HR3.out
      clear HLN
      go_wp2_with fail
      refine HCH.out.mono ?_
      rintro e w7 ⟨rfl, hw7⟩
      have B7 : Below wr.heap.size wr w7 := by rw [hw7]; exact ((Below.refl _ _).alloc (Nat.le_refl _) _).alloc (by simp) _
      have hs1 : w7.cell? ⟨wr.heap.size, 0, none⟩ = some (.slice ak k.length ck) := by rw [hw7]; exact ((Bk.new wr #[.slice ak k.length ck] 26).alloc _).cells 0
      have hn1 : w7.cell? ⟨wr.heap.size + 1, 0, none⟩ = some (.int .i64 20) := by
        rw [hw7]
        have h := (Bk.new (wr.alloc (.cells #[.slice ak k.length ck] 26)) #[.int .i64 20] 3).cells 0
        rw [World.size_alloc] at h
        exact h
      have z7 : w7.heap.size = wr.heap.size + 2 := by rw [hw7]; simp
      have HVV : ∃ V : Nat → Value, (∀ i, Reads w .i64 (V i) (pieceL k i)) ∧ SeqStopsK Fence.wide 2 Tryz.prog 43 #[.pointer (some ⟨wr.heap.size, 0, none⟩), .pointer (some ⟨wr.heap.size + 1, 0, none⟩)] (fun i : Nat => #[V i]) (Scc.Kp wr.heap.size (wr.heap.size + 1)) (fun xs => xs = List.range ((k.length + 19) / 20)) (fun _ => True) ((k.length + 19) / 20) w7 := by
        by_cases hk : k = []
        · subst hk
          exact ⟨fun _ => .slice none 0 0, fun i => by have e : pieceL [] i = [] := by simp [pieceL]
                                                       rw [e]; exact Reads.nil _ _, Scc.chunk_stops0 1 _ _ ck ak _ w7 hs1 hn1 (by omega) (by omega)⟩
        · obtain ⟨_, _, he, h1, h2, h3⟩ := HRK.out
          injection he with he1 _ he2
          subst he1 he2
          rcases h3 with h3 | ⟨bk, ok, rfl, hbk, hck⟩
          · exact absurd h3 hk
          exact ⟨Scc.pieceV bk ok k.length, reads_piece HRK.out, Scc.chunk_stops 1 _ _ bk ok k.length ck _ w7 hs1 hn1 h1 h2 rfl (by omega) (by omega) (by omega)⟩
      obtain ⟨V, hV, hseq⟩ := HVV
      have HVR := Lib.hid hV
      have HSEQ := Lib.hid hseq
      have HB7 := Lib.hid (HW.out.trans (B7.mono HW.out.size))
      have HL7 := Lib.hid (HLD.out.keep B7)
      have HZ7 := Lib.hid z7
      have HKS : RowKit.Hid (Bk w7 wr.heap.size #[.slice ak k.length ck] 26) := Lib.hid (by rw [hw7]; exact (Bk.new wr _ 26).alloc _)
      have HKN : RowKit.Hid (Bk w7 (wr.heap.size + 1) #[.int .i64 20] 3) := Lib.hid (by
        have h := Bk.new (wr.alloc (.cells #[.slice ak k.length ck] 26)) #[.int .i64 20] 3
        rw [World.size_alloc] at h
        rw [hw7]
        exact h)
      clear hV hseq B7 hs1 hn1 x7 l7 hw7
      have hI0 : TxI w.heap.size gl wr.heap.size (wr.heap.size + 1) (.slice ak k.length ck) w (hallL c :: progL 0 p) k [] w7 := ⟨by rw [List.map_nil, List.append_nil]; exact HL7.out, HB7.out, HKS.out, HKN.out⟩
      have hzs : wr.heap.size < w7.heap.size ∧ wr.heap.size + 1 < w7.heap.size := by have := HZ7.out; omega
      go_wp2_with fail
      refine (wpIn_wide (n := 3)).1 ?_
      refine' wpIn_rangeFunc_ownF (F := Fence.wide) (n := 3) rfl (by decide) (gf := 43) (lb := #[.pointer (some ⟨wr.heap.size, 0, none⟩), .pointer (some ⟨wr.heap.size + 1, 0, none⟩)]) rfl trivial (enters_of Tryz.func43 (by kernel_rfl) rfl) HSEQ.out (fun h k => Scc.Kp.trans h k) (fun W l o o' hl _ _ _ => ⟨World.putObj_heap_other (by omega), World.putObj_heap_other (by omega)⟩) (Below.refl _ _) (fun _ => rfl)
        (TxI w.heap.size gl wr.heap.size (wr.heap.size + 1) (.slice ak k.length ck) w (hallL c :: progL 0 p) k) (fun _ _ _ => False) (TxI_own HB7.out.size (Nat.le_refl _)) (fun _ _ _ _ _ h _ _ => h) hI0 _ ?assign ?body ?done ?stop
      case assign =>
        intro l x W K hK
        gi_wp2
        exact hK
      case body =>
        rintro l pre x W ⟨hl, hb, hks, hkn⟩ hlen
        have HBW := Lib.hid hb
        have HKSW := Lib.hid hks
        have HKNW := Lib.hid hkn
        obtain ⟨al, cl, BL, OL⟩ := hl
        have hN2 := lns_len c p p.length 0 hpl (fun l hl => (HR5.out l hl).1)
        rw [lns_done] at hN2
        obtain ⟨LL, hLL⟩ : ∃ q, q = (hallL c :: progL 0 p) ++ pre.map fun i => pickL (pieceL k i) := ⟨_, rfl⟩
        rw [← hLL] at BL OL
        obtain ⟨N, hN⟩ : ∃ N, N = LL.length := ⟨_, rfl⟩
        rw [← hN] at BL
        have hN3 : N ≤ 3000 := by
          have h1 := congrArg List.length hLL
          rw [List.length_append, List.length_map] at h1
          omega
        have OL2 : W.ownsRow w.heap.size 9 1 (.slice al N cl) N (LL.map strV) := by have h := OL; unfold OwnS at h; rw [← hN] at h; exact h
        have HN8 := Lib.hid hN
        have HLL := Lib.hid hLL
        have HNUM : RowKit.Hid (∀ W', Below W.heap.size W W' → Calls Tryz.prog 19 #[V x] W' fun e w' => e = .returned (.string ⟨(numsT (pieceL k x)).toArray⟩) ∧ Below W'.heap.size W' w') := Lib.hid (fun W' hb' => fNumsText (pieceL k x) (by rw [piece_len]; omega) (piece_in HR6.out HWW.out.2 x) (V x) W' (HL.out.keep (HBW.out.trans (hb'.mono HBW.out.size))) ((HVR.out x).keep (HBW.out.trans (hb'.mono HBW.out.size))))
        have hnt := numsT_len (pieceL k x) (piece_in HR6.out HWW.out.2 x)
        rw [piece_len] at hnt
        have hnt2 : (numsT (pieceL k x)).length ≤ 420 := by omega
        obtain ⟨t9, ht9⟩ : ∃ q, q = numsT (pieceL k x) := ⟨_, rfl⟩
        rw [← ht9] at HNUM hnt2
        have HT9 := Lib.hid ht9
        clear hnt ht9 hN hLL OL hb hks hkn
        gi_wp2
        refine Rnd.region_in (Qn := fun a w => Exit.inBlock 5 _ .normal a w) (S := fun _ => True) (by kernel_rfl) (Rnd.noDefer_spec (by kernel_rfl)) (fun a w h => h) ?_
        have zb0 : Below W.heap.size W W.drew := (Below.refl _ _).drew
        have hHeld : True := trivial
        generalize W.drew = z0 at *
        refine wpAnyH_take (i := 1) (oi := _) (v := V x) rfl (by kernel_rfl) (by kernel_rfl) (by kernel_rfl) (fun _ _ _ h => absurd h.1 (by simp)) (Or.inl ⟨by rfl, fun w' hSw => by go_simp⟩) hHeld ?_
        try simp only [Act.put, List.getElem_toArray, List.getElem_cons_succ, List.getElem_cons_zero, List.setIfInBounds_toArray, List.set_cons_succ, List.set_cons_zero]
        refine wpAnyH_ready (rs := [0, 2]) (by kernel_rfl) (by simp) ?_
        refine AllReadyH.cons (o := _) rfl (fun K hK => ?_) (AllReadyH.cons (o := _) rfl (fun K hK => ?_) AllReadyH.nil)
        · have c0 : z0.cell? ⟨gl, 0, none⟩ = some (.slice al N cl) := (BL.keep zb0).cells 0
          go_simp
          refine hK.out _ _ trivial (fun hHeld => ?_)
          clear hK K c0
          try simp only [Act.put, List.getElem_toArray, List.getElem_cons_succ, List.getElem_cons_zero, List.setIfInBounds_toArray, List.set_cons_succ, List.set_cons_zero]
          refine wpAnyH_ready (rs := [2]) (by kernel_rfl) (by simp) ?_
          refine AllReadyH.cons (o := _) rfl (fun K hK => ?_) AllReadyH.nil
          go_simp
          refine (HNUM.out _ zb0).mono ?_
          rintro en z3 ⟨rfl, hb9⟩
          have zb3 := zb0.trans (hb9.mono zb0.size)
          refine hK.out _ _ trivial (fun hHeld => ?_)
          clear hK K hb9
          try simp only [Act.put, List.getElem_toArray, List.getElem_cons_succ, List.getElem_cons_zero, List.setIfInBounds_toArray, List.set_cons_succ, List.set_cons_zero]
          refine wpAnyH_take (i := 3) (oi := _) (v := .string (⟨#[112, 105, 99, 107]⟩ ++ ⟨t9.toArray⟩ : ByteArray)) rfl (by kernel_rfl) (by kernel_rfl) (by kernel_rfl) (fun _ _ _ h => absurd h.1 (by simp)) (Or.inl ⟨by rfl, fun w' hSw => by go_simp; omega⟩) hHeld ?_
          try simp only [Act.put, List.getElem_toArray, List.getElem_cons_succ, List.getElem_cons_zero, List.setIfInBounds_toArray, List.set_cons_succ, List.set_cons_zero]
          refine wpAnyH_ready (rs := [4]) (by kernel_rfl) (by simp) ?_
          refine AllReadyH.cons (o := _) rfl (fun K hK => ?_) AllReadyH.nil
          go_simp
          obtain ⟨ln, hln⟩ : ∃ q : ByteArray, q = (⟨#[112, 105, 99, 107]⟩ ++ ⟨t9.toArray⟩ : ByteArray) := ⟨_, rfl⟩
          rw [← hln]
          have HLI := Lib.hid hln
          clear hln
          have zb8 := zb3.alloc zb3.size (.cells #[.string ln] 9)
          have nb8 : ∀ j, j < [Value.string ln].length → (z3.alloc (.cells #[.string ln] 9)).cell? ⟨z3.heap.size, j, none⟩ = [Value.string ln][j]? := new_cells z3 #[.string ln] 9
          obtain ⟨gn, hgn⟩ : ∃ q, q = z3.heap.size := ⟨_, rfl⟩
          obtain ⟨z8, hz8⟩ : ∃ u, u = z3.alloc (.cells #[.string ln] 9) := ⟨_, rfl⟩
          rw [← hz8] at zb8 nb8 ⊢
          rw [← hgn] at nb8 ⊢
          clear hz8 hgn
          refine hK.out _ _ trivial (fun hHeld => ?_)
          clear hK K
          try simp only [Act.put, List.getElem_toArray, List.getElem_cons_succ, List.getElem_cons_zero, List.setIfInBounds_toArray, List.set_cons_succ, List.set_cons_zero]
          refine wpAnyH_ready (rs := [5]) (by kernel_rfl) (by simp) ?_
          refine AllReadyH.cons (o := _) rfl (fun K hK => ?_) AllReadyH.nil
          have OZ := owns_below OL2 zb8 (fun g hg => (World.ownsRow.lt OL2 g hg).2)
          have szw := HBW.out.size
          have szz := zb8.size
          refine step_append elemStr rfl (.tmp 74) (.tmp 78) rfl w.heap.size (.slice al N cl) N (LL.map strV) rfl (by exact OZ) gn 1 1 [.string ln] rfl rfl nb8 (by intro u hu; rw [List.mem_singleton.1 hu]; rfl) (by omega) (by omega) ?_
          intro v7 z9 O9 G9 A9
          have BZ : Bk z8 gl #[.slice al N cl] 45 := BL.keep zb8
          have hne : some gl ≠ (Value.slice al N cl).ownBlock := fun e => bk_row BZ OZ (by decide) e.symm
          have B9 : Bk z9 gl #[.slice al N cl] 45 := (G9.block gl BZ.lt hne).trans BZ
          have HB9 : RowKit.Hid (Below w.heap.size w z9) := Lib.hid (HBW.out.trans ((zb8.mono szw).trans ((Below.refl _ _).grown G9 (by omega) (fun k hk => (World.ownsRow.lt OZ k hk).1))))
          have HS9 : RowKit.Hid (Bk z9 wr.heap.size #[.slice ak k.length ck] 26) := Lib.hid ((G9.block wr.heap.size (HKSW.out.keep zb8).lt (fun e => bk_row (HKSW.out.keep zb8) OZ (by decide) e.symm)).trans (HKSW.out.keep zb8))
          have HM9 : RowKit.Hid (Bk z9 (wr.heap.size + 1) #[.int .i64 20] 3) := Lib.hid ((G9.block (wr.heap.size + 1) (HKNW.out.keep zb8).lt (fun e => bk_row (HKNW.out.keep zb8) OZ (by decide) e.symm)).trans (HKNW.out.keep zb8))
          have HG9 : RowKit.Hid (G2 (Value.slice al N cl).ownBlock (some gl) W z9) := Lib.hid ((G2.of zb8).grown G9)
          obtain ⟨a7, c7, rfl, hc7, hm7⟩ := own_slice O9
          have HO9 := Lib.hid O9
          have c9 : z9.cell? ⟨gl, 0, none⟩ = some (.slice al N cl) := B9.cells 0
          have f9 := B9.frozen 0
          have l9 := B9.lt
          refine hK.out _ _ trivial (fun hHeld => ?_)
          clear hK K nb8 G9 A9 BZ hne OZ O9
          try simp only [Act.put, List.getElem_toArray, List.getElem_cons_succ, List.getElem_cons_zero, List.setIfInBounds_toArray, List.set_cons_succ, List.set_cons_zero]
          refine wpAnyH_ready (rs := [6]) (by kernel_rfl) (by simp) ?_
          refine AllReadyH.cons (o := _) rfl (fun K hK => ?_) AllReadyH.nil
          go_simp
          refine hK.out _ _ trivial (fun hHeld => ?_)
          clear hK K
          try simp only [Act.put, List.getElem_toArray, List.getElem_cons_succ, List.getElem_cons_zero, List.setIfInBounds_toArray, List.set_cons_succ, List.set_cons_zero]
          refine wpAnyH_done (by kernel_rfl) ?_ _
          refine ⟨rfl, ?_⟩
          have el : ln = ⟨(pickL (pieceL k x)).toArray⟩ := by
            rw [HLI.out, HT9.out]
            apply ByteArray.ext
            simp [pickL]
          have hlen : ((hallL c :: progL 0 p) ++ (pre ++ [x]).map fun i => pickL (pieceL k i)) = LL ++ [pickL (pieceL k x)] := by rw [HLL.out, List.map_append, List.append_assoc]; rfl
          have hlen2 : (LL ++ [pickL (pieceL k x)]).length = N + 1 := by rw [List.length_append, ← HN8.out]; rfl
          have HEND : RowKit.Hid (TxI w.heap.size gl wr.heap.size (wr.heap.size + 1) (.slice ak k.length ck) w (hallL c :: progL 0 p) k (pre ++ [x]) (z9.setCell ⟨gl, 0, none⟩ (.slice a7 (N + 1) c7))) := Lib.hid (by
            refine ⟨?_, HB9.out.setCell (p := ⟨gl, 0, none⟩) (by have := HGL.out; simp; omega) _, HS9.out.setCell_far (fun e => bk_ne HS9.out B9 (by decide) e) _, HM9.out.setCell_far (fun e => bk_ne HM9.out B9 (by decide) e) _⟩
            rw [hlen]
            refine ⟨a7, c7, ?_, ?_⟩
            · rw [hlen2]; exact B9.setCell 0 _
            · unfold OwnS
              rw [hlen2]
              refine own_same (owns_len HO9.out rfl ?_) (fun g hg => heap_setCell_other z9 ⟨gl, 0, none⟩ g _ (fun e => bk_row B9 HO9.out (by decide) (by rw [hg, e])))
              rw [List.map_append, el]
              rfl)
          have HG10 : RowKit.Hid (G2 (Value.slice al N cl).ownBlock (some gl) W (z9.setCell ⟨gl, 0, none⟩ (.slice a7 (N + 1) c7))) := Lib.hid (HG9.out.grown2 ⟨rfl, rfl, rfl, by simp [World.setCell], fun k _ hk => heap_setCell_other z9 ⟨gl, 0, none⟩ k _ (fun e => hk (by simp [e]))⟩)
          have HKO : RowKit.Hid (KeepsOthers W (z9.setCell ⟨gl, 0, none⟩ (.slice a7 (N + 1) c7))) := Lib.hid (HG10.out.keeps OL2 BL)
          have HKP : RowKit.Hid (Scc.Kp wr.heap.size (wr.heap.size + 1) W (z9.setCell ⟨gl, 0, none⟩ (.slice a7 (N + 1) c7))) := Lib.hid ⟨HEND.out.2.2.1.trans HKSW.out.symm, HEND.out.2.2.2.trans HKNW.out.symm⟩
          clear B9 c9 f9 l9 BL OL2 el hlen hlen2
          gi_wp2
          exact ⟨HKO.out, HKP.out, HEND.out⟩
        · go_simp
          refine (HNUM.out _ zb0).mono ?_
          rintro en z3 ⟨rfl, hb9⟩
          have zb3 := zb0.trans (hb9.mono zb0.size)
          refine hK.out _ _ trivial (fun hHeld => ?_)
          clear hK K hb9
          try simp only [Act.put, List.getElem_toArray, List.getElem_cons_succ, List.getElem_cons_zero, List.setIfInBounds_toArray, List.set_cons_succ, List.set_cons_zero]
          refine wpAnyH_take (i := 3) (oi := _) (v := .string (⟨#[112, 105, 99, 107]⟩ ++ ⟨t9.toArray⟩ : ByteArray)) rfl (by kernel_rfl) (by kernel_rfl) (by kernel_rfl) (fun _ _ _ h => absurd h.1 (by simp)) (Or.inl ⟨by rfl, fun w' hSw => by go_simp; omega⟩) hHeld ?_
          try simp only [Act.put, List.getElem_toArray, List.getElem_cons_succ, List.getElem_cons_zero, List.setIfInBounds_toArray, List.set_cons_succ, List.set_cons_zero]
          refine wpAnyH_ready (rs := [0, 4]) (by kernel_rfl) (by simp) ?_
          refine AllReadyH.cons (o := _) rfl (fun K hK => ?_) (AllReadyH.cons (o := _) rfl (fun K hK => ?_) AllReadyH.nil)
          · have c0 : z3.cell? ⟨gl, 0, none⟩ = some (.slice al N cl) := (BL.keep zb3).cells 0
            go_simp
            refine hK.out _ _ trivial (fun hHeld => ?_)
            clear hK K c0
            try simp only [Act.put, List.getElem_toArray, List.getElem_cons_succ, List.getElem_cons_zero, List.setIfInBounds_toArray, List.set_cons_succ, List.set_cons_zero]
            refine wpAnyH_ready (rs := [4]) (by kernel_rfl) (by simp) ?_
            refine AllReadyH.cons (o := _) rfl (fun K hK => ?_) AllReadyH.nil
            go_simp
            obtain ⟨ln, hln⟩ : ∃ q : ByteArray, q = (⟨#[112, 105, 99, 107]⟩ ++ ⟨t9.toArray⟩ : ByteArray) := ⟨_, rfl⟩
            rw [← hln]
            have HLI := Lib.hid hln
            clear hln
            have zb8 := zb3.alloc zb3.size (.cells #[.string ln] 9)
            have nb8 : ∀ j, j < [Value.string ln].length → (z3.alloc (.cells #[.string ln] 9)).cell? ⟨z3.heap.size, j, none⟩ = [Value.string ln][j]? := new_cells z3 #[.string ln] 9
            obtain ⟨gn, hgn⟩ : ∃ q, q = z3.heap.size := ⟨_, rfl⟩
            obtain ⟨z8, hz8⟩ : ∃ u, u = z3.alloc (.cells #[.string ln] 9) := ⟨_, rfl⟩
            rw [← hz8] at zb8 nb8 ⊢
            rw [← hgn] at nb8 ⊢
            clear hz8 hgn
            refine hK.out _ _ trivial (fun hHeld => ?_)
            clear hK K
            try simp only [Act.put, List.getElem_toArray, List.getElem_cons_succ, List.getElem_cons_zero, List.setIfInBounds_toArray, List.set_cons_succ, List.set_cons_zero]
            refine wpAnyH_ready (rs := [5]) (by kernel_rfl) (by simp) ?_
            refine AllReadyH.cons (o := _) rfl (fun K hK => ?_) AllReadyH.nil
            have OZ := owns_below OL2 zb8 (fun g hg => (World.ownsRow.lt OL2 g hg).2)
            have szw := HBW.out.size
            have szz := zb8.size
            refine step_append elemStr rfl (.tmp 74) (.tmp 78) rfl w.heap.size (.slice al N cl) N (LL.map strV) rfl (by exact OZ) gn 1 1 [.string ln] rfl rfl nb8 (by intro u hu; rw [List.mem_singleton.1 hu]; rfl) (by omega) (by omega) ?_
            intro v7 z9 O9 G9 A9
            have BZ : Bk z8 gl #[.slice al N cl] 45 := BL.keep zb8
            have hne : some gl ≠ (Value.slice al N cl).ownBlock := fun e => bk_row BZ OZ (by decide) e.symm
            have B9 : Bk z9 gl #[.slice al N cl] 45 := (G9.block gl BZ.lt hne).trans BZ
            have HB9 : RowKit.Hid (Below w.heap.size w z9) := Lib.hid (HBW.out.trans ((zb8.mono szw).trans ((Below.refl _ _).grown G9 (by omega) (fun k hk => (World.ownsRow.lt OZ k hk).1))))
            have HS9 : RowKit.Hid (Bk z9 wr.heap.size #[.slice ak k.length ck] 26) := Lib.hid ((G9.block wr.heap.size (HKSW.out.keep zb8).lt (fun e => bk_row (HKSW.out.keep zb8) OZ (by decide) e.symm)).trans (HKSW.out.keep zb8))
            have HM9 : RowKit.Hid (Bk z9 (wr.heap.size + 1) #[.int .i64 20] 3) := Lib.hid ((G9.block (wr.heap.size + 1) (HKNW.out.keep zb8).lt (fun e => bk_row (HKNW.out.keep zb8) OZ (by decide) e.symm)).trans (HKNW.out.keep zb8))
            have HG9 : RowKit.Hid (G2 (Value.slice al N cl).ownBlock (some gl) W z9) := Lib.hid ((G2.of zb8).grown G9)
            obtain ⟨a7, c7, rfl, hc7, hm7⟩ := own_slice O9
            have HO9 := Lib.hid O9
            have c9 : z9.cell? ⟨gl, 0, none⟩ = some (.slice al N cl) := B9.cells 0
            have f9 := B9.frozen 0
            have l9 := B9.lt
            refine hK.out _ _ trivial (fun hHeld => ?_)
            clear hK K nb8 G9 A9 BZ hne OZ O9
            try simp only [Act.put, List.getElem_toArray, List.getElem_cons_succ, List.getElem_cons_zero, List.setIfInBounds_toArray, List.set_cons_succ, List.set_cons_zero]
            refine wpAnyH_ready (rs := [6]) (by kernel_rfl) (by simp) ?_
            refine AllReadyH.cons (o := _) rfl (fun K hK => ?_) AllReadyH.nil
            go_simp
            refine hK.out _ _ trivial (fun hHeld => ?_)
            clear hK K
            try simp only [Act.put, List.getElem_toArray, List.getElem_cons_succ, List.getElem_cons_zero, List.setIfInBounds_toArray, List.set_cons_succ, List.set_cons_zero]
            refine wpAnyH_done (by kernel_rfl) ?_ _
            refine ⟨rfl, ?_⟩
            have el : ln = ⟨(pickL (pieceL k x)).toArray⟩ := by
              rw [HLI.out, HT9.out]
              apply ByteArray.ext
              simp [pickL]
            have hlen : ((hallL c :: progL 0 p) ++ (pre ++ [x]).map fun i => pickL (pieceL k i)) = LL ++ [pickL (pieceL k x)] := by rw [HLL.out, List.map_append, List.append_assoc]; rfl
            have hlen2 : (LL ++ [pickL (pieceL k x)]).length = N + 1 := by rw [List.length_append, ← HN8.out]; rfl
            have HEND : RowKit.Hid (TxI w.heap.size gl wr.heap.size (wr.heap.size + 1) (.slice ak k.length ck) w (hallL c :: progL 0 p) k (pre ++ [x]) (z9.setCell ⟨gl, 0, none⟩ (.slice a7 (N + 1) c7))) := Lib.hid (by
              refine ⟨?_, HB9.out.setCell (p := ⟨gl, 0, none⟩) (by have := HGL.out; simp; omega) _, HS9.out.setCell_far (fun e => bk_ne HS9.out B9 (by decide) e) _, HM9.out.setCell_far (fun e => bk_ne HM9.out B9 (by decide) e) _⟩
              rw [hlen]
              refine ⟨a7, c7, ?_, ?_⟩
              · rw [hlen2]; exact B9.setCell 0 _
              · unfold OwnS
                rw [hlen2]
                refine own_same (owns_len HO9.out rfl ?_) (fun g hg => heap_setCell_other z9 ⟨gl, 0, none⟩ g _ (fun e => bk_row B9 HO9.out (by decide) (by rw [hg, e])))
                rw [List.map_append, el]
                rfl)
            have HG10 : RowKit.Hid (G2 (Value.slice al N cl).ownBlock (some gl) W (z9.setCell ⟨gl, 0, none⟩ (.slice a7 (N + 1) c7))) := Lib.hid (HG9.out.grown2 ⟨rfl, rfl, rfl, by simp [World.setCell], fun k _ hk => heap_setCell_other z9 ⟨gl, 0, none⟩ k _ (fun e => hk (by simp [e]))⟩)
            have HKO : RowKit.Hid (KeepsOthers W (z9.setCell ⟨gl, 0, none⟩ (.slice a7 (N + 1) c7))) := Lib.hid (HG10.out.keeps OL2 BL)
            have HKP : RowKit.Hid (Scc.Kp wr.heap.size (wr.heap.size + 1) W (z9.setCell ⟨gl, 0, none⟩ (.slice a7 (N + 1) c7))) := Lib.hid ⟨HEND.out.2.2.1.trans HKSW.out.symm, HEND.out.2.2.2.trans HKNW.out.symm⟩
            clear B9 c9 f9 l9 BL OL2 el hlen hlen2
            gi_wp2
            exact ⟨HKO.out, HKP.out, HEND.out⟩
          · go_simp
            obtain ⟨ln, hln⟩ : ∃ q : ByteArray, q = (⟨#[112, 105, 99, 107]⟩ ++ ⟨t9.toArray⟩ : ByteArray) := ⟨_, rfl⟩
            rw [← hln]
            have HLI := Lib.hid hln
            clear hln
            have zb8 := zb3.alloc zb3.size (.cells #[.string ln] 9)
            have nb8 : ∀ j, j < [Value.string ln].length → (z3.alloc (.cells #[.string ln] 9)).cell? ⟨z3.heap.size, j, none⟩ = [Value.string ln][j]? := new_cells z3 #[.string ln] 9
            obtain ⟨gn, hgn⟩ : ∃ q, q = z3.heap.size := ⟨_, rfl⟩
            obtain ⟨z8, hz8⟩ : ∃ u, u = z3.alloc (.cells #[.string ln] 9) := ⟨_, rfl⟩
            rw [← hz8] at zb8 nb8 ⊢
            rw [← hgn] at nb8 ⊢
            clear hz8 hgn
            refine hK.out _ _ trivial (fun hHeld => ?_)
            clear hK K
            try simp only [Act.put, List.getElem_toArray, List.getElem_cons_succ, List.getElem_cons_zero, List.setIfInBounds_toArray, List.set_cons_succ, List.set_cons_zero]
            refine wpAnyH_ready (rs := [0]) (by kernel_rfl) (by simp) ?_
            refine AllReadyH.cons (o := _) rfl (fun K hK => ?_) AllReadyH.nil
            have c0 : z8.cell? ⟨gl, 0, none⟩ = some (.slice al N cl) := (BL.keep zb8).cells 0
            go_simp
            refine hK.out _ _ trivial (fun hHeld => ?_)
            clear hK K c0
            try simp only [Act.put, List.getElem_toArray, List.getElem_cons_succ, List.getElem_cons_zero, List.setIfInBounds_toArray, List.set_cons_succ, List.set_cons_zero]
            refine wpAnyH_ready (rs := [5]) (by kernel_rfl) (by simp) ?_
            refine AllReadyH.cons (o := _) rfl (fun K hK => ?_) AllReadyH.nil
            have OZ := owns_below OL2 zb8 (fun g hg => (World.ownsRow.lt OL2 g hg).2)
            have szw := HBW.out.size
            have szz := zb8.size
            refine step_append elemStr rfl (.tmp 74) (.tmp 78) rfl w.heap.size (.slice al N cl) N (LL.map strV) rfl (by exact OZ) gn 1 1 [.string ln] rfl rfl nb8 (by intro u hu; rw [List.mem_singleton.1 hu]; rfl) (by omega) (by omega) ?_
            intro v7 z9 O9 G9 A9
            have BZ : Bk z8 gl #[.slice al N cl] 45 := BL.keep zb8
            have hne : some gl ≠ (Value.slice al N cl).ownBlock := fun e => bk_row BZ OZ (by decide) e.symm
            have B9 : Bk z9 gl #[.slice al N cl] 45 := (G9.block gl BZ.lt hne).trans BZ
            have HB9 : RowKit.Hid (Below w.heap.size w z9) := Lib.hid (HBW.out.trans ((zb8.mono szw).trans ((Below.refl _ _).grown G9 (by omega) (fun k hk => (World.ownsRow.lt OZ k hk).1))))
            have HS9 : RowKit.Hid (Bk z9 wr.heap.size #[.slice ak k.length ck] 26) := Lib.hid ((G9.block wr.heap.size (HKSW.out.keep zb8).lt (fun e => bk_row (HKSW.out.keep zb8) OZ (by decide) e.symm)).trans (HKSW.out.keep zb8))
            have HM9 : RowKit.Hid (Bk z9 (wr.heap.size + 1) #[.int .i64 20] 3) := Lib.hid ((G9.block (wr.heap.size + 1) (HKNW.out.keep zb8).lt (fun e => bk_row (HKNW.out.keep zb8) OZ (by decide) e.symm)).trans (HKNW.out.keep zb8))
            have HG9 : RowKit.Hid (G2 (Value.slice al N cl).ownBlock (some gl) W z9) := Lib.hid ((G2.of zb8).grown G9)
            obtain ⟨a7, c7, rfl, hc7, hm7⟩ := own_slice O9
            have HO9 := Lib.hid O9
            have c9 : z9.cell? ⟨gl, 0, none⟩ = some (.slice al N cl) := B9.cells 0
            have f9 := B9.frozen 0
            have l9 := B9.lt
            refine hK.out _ _ trivial (fun hHeld => ?_)
            clear hK K nb8 G9 A9 BZ hne OZ O9
            try simp only [Act.put, List.getElem_toArray, List.getElem_cons_succ, List.getElem_cons_zero, List.setIfInBounds_toArray, List.set_cons_succ, List.set_cons_zero]
            refine wpAnyH_ready (rs := [6]) (by kernel_rfl) (by simp) ?_
            refine AllReadyH.cons (o := _) rfl (fun K hK => ?_) AllReadyH.nil
            go_simp
            refine hK.out _ _ trivial (fun hHeld => ?_)
            clear hK K
            try simp only [Act.put, List.getElem_toArray, List.getElem_cons_succ, List.getElem_cons_zero, List.setIfInBounds_toArray, List.set_cons_succ, List.set_cons_zero]
            refine wpAnyH_done (by kernel_rfl) ?_ _
            refine ⟨rfl, ?_⟩
            have el : ln = ⟨(pickL (pieceL k x)).toArray⟩ := by
              rw [HLI.out, HT9.out]
              apply ByteArray.ext
              simp [pickL]
            have hlen : ((hallL c :: progL 0 p) ++ (pre ++ [x]).map fun i => pickL (pieceL k i)) = LL ++ [pickL (pieceL k x)] := by rw [HLL.out, List.map_append, List.append_assoc]; rfl
            have hlen2 : (LL ++ [pickL (pieceL k x)]).length = N + 1 := by rw [List.length_append, ← HN8.out]; rfl
            have HEND : RowKit.Hid (TxI w.heap.size gl wr.heap.size (wr.heap.size + 1) (.slice ak k.length ck) w (hallL c :: progL 0 p) k (pre ++ [x]) (z9.setCell ⟨gl, 0, none⟩ (.slice a7 (N + 1) c7))) := Lib.hid (by
              refine ⟨?_, HB9.out.setCell (p := ⟨gl, 0, none⟩) (by have := HGL.out; simp; omega) _, HS9.out.setCell_far (fun e => bk_ne HS9.out B9 (by decide) e) _, HM9.out.setCell_far (fun e => bk_ne HM9.out B9 (by decide) e) _⟩
              rw [hlen]
              refine ⟨a7, c7, ?_, ?_⟩
              · rw [hlen2]; exact B9.setCell 0 _
              · unfold OwnS
                rw [hlen2]
                refine own_same (owns_len HO9.out rfl ?_) (fun g hg => heap_setCell_other z9 ⟨gl, 0, none⟩ g _ (fun e => bk_row B9 HO9.out (by decide) (by rw [hg, e])))
                rw [List.map_append, el]
                rfl)
            have HG10 : RowKit.Hid (G2 (Value.slice al N cl).ownBlock (some gl) W (z9.setCell ⟨gl, 0, none⟩ (.slice a7 (N + 1) c7))) := Lib.hid (HG9.out.grown2 ⟨rfl, rfl, rfl, by simp [World.setCell], fun k _ hk => heap_setCell_other z9 ⟨gl, 0, none⟩ k _ (fun e => hk (by simp [e]))⟩)
            have HKO : RowKit.Hid (KeepsOthers W (z9.setCell ⟨gl, 0, none⟩ (.slice a7 (N + 1) c7))) := Lib.hid (HG10.out.keeps OL2 BL)
            have HKP : RowKit.Hid (Scc.Kp wr.heap.size (wr.heap.size + 1) W (z9.setCell ⟨gl, 0, none⟩ (.slice a7 (N + 1) c7))) := Lib.hid ⟨HEND.out.2.2.1.trans HKSW.out.symm, HEND.out.2.2.2.trans HKNW.out.symm⟩
            clear B9 c9 f9 l9 BL OL2 el hlen hlen2
            gi_wp2
            exact ⟨HKO.out, HKP.out, HEND.out⟩
      case done =>
        rintro D xs W hD rfl ⟨hl, hb, _, _⟩ hdef
        rw [← chunk_pieces_map] at hl
        obtain ⟨LL, hLL⟩ : ∃ q, q = lines ⟨c, p, k⟩ := ⟨_, rfl⟩
        have e0 : (hallL c :: progL 0 p) ++ (chunk k).map pickL = LL := by rw [hLL]; rfl
        rw [e0] at hl
        obtain ⟨al, cl, BL, OL⟩ := hl
        obtain ⟨N, hN⟩ : ∃ N, N = LL.length := ⟨_, rfl⟩
        rw [← hN] at BL OL
        have BLc := BL.cells
        have BLl := BL.lt
        have HLL := Lib.hid hLL
        have HN := Lib.hid hN
        clear hLL hN e0
        have HOL := Lib.hid OL
        have HBW := Lib.hid hb
        have HDF := Lib.hid hdef
        have HDD := Lib.hid hD
        clear OL hb hdef BL
        have HRS := HRIGHT.out
        have hlc := lines_count HRS
        have hjl := congrArg List.length (text_join ⟨c, p, k⟩)
        have htl := textS_len HRS HFT.out
        rw [List.length_append] at hjl
        have e1 : ([10] : List UInt8).length = 1 := rfl
        rw [e1] at hjl
        have h0 : 0 < (lines ⟨c, p, k⟩).length := by simp [lines]
        rw [← HLL.out] at hlc hjl h0
        have HJN := Lib.hid (fJoin10 (L := LL) HOL.out h0 (by omega) (by omega))
        obtain ⟨jj, hjj⟩ : ∃ q, q = Lib.join LL [10] := ⟨_, rfl⟩
        rw [← hjj] at HJN hjl
        have HJJ := Lib.hid hjj
        have hsj : ¬ 9223372036854775807 < (jj.length : Int) + 1 := by omega
        clear hjj hjl htl hlc HRS e1 h0
        go_wp2_with fail
        refine HJN.out.mono ?_
        rintro e W2 ⟨rfl, hb2⟩
        have HK2 : W2.heap[D]? = some (.deferred (some [])) := (hb2.block D (Array.getElem?_eq_some_iff.1 HDF.out).1).trans HDF.out
        have HB22 := Lib.hid (HBW.out.trans (hb2.mono HBW.out.size))
        have HK22 := Lib.hid HK2
        clear hb2 HK2
        go_wp2_with fail
        have eT : (⟨jj.toArray⟩ ++ ⟨#[10]⟩ : ByteArray) = ⟨(textS ⟨c, p, k⟩).toArray⟩ := by
          rw [← text_join, HJJ.out, HLL.out]
          apply ByteArray.ext
          simp
        rw [eT]
        refine ⟨by simp, .inl ⟨_, _, rfl, run_takeDeferred HK22.out, ?_⟩⟩
        refine ⟨_, results_tmp2 rfl _ _ _, rfl, ?_⟩
        exact HB22.out.trans (belowK_b (w := w) (Nat.le_refl _) W2 D _ _ (Nat.le_trans HB7.out.size HDD.out) HK22.out rfl rfl)
      case stop =>
        rintro D c2 pre W _ _ h _
        exact h.elim
end Go.Proofs.YtpmcedfeiconfaaGreatDoor.Scw
