import PyProof.Rows.All
import Wide.All
import OpenK.AllK
import Wide.FinOn
import HandS.ForMost
import HandS.IsInst
import HandS.TupAny
import HandS.Strs
import HandS.OwnEq
import HandS.Flow
import HandS.Evl
import HandS.Zip0
import HandS.Walk
import PyProof.Draws
import PyProof.EnumMake
import PyProof.InstNe
import PySem.Challenge.RW_firstmet_k01_shapes_kept
/-! ## FmBase -/
set_option Elab.async false
set_option maxRecDepth 100000
/-! What all of our laws share: how a def of the text is called, heaps that grow, the bag of the drawn numbers. -/
namespace Fm
open PySem L2
/-! ### calls -/
/-- the module's name x is a def that keeps the promise sp -/
structure Df (P : Program) (w : World) (K : PySem.W.Frag) (mg : Str → Option Value) (base : Heap) (x : Str) (k : Nat) (ps : List Str) (sp : Sp) : Prop where
  ex : ∃ (f : Addr) (fd : FuncData), FnOk P w K mg base CX0 k f fd ps sp ∧ mg x = some (.ref f) ∧ PySem.W.keepIn K (.ref f) = true ∧ Binds K fd ps []
/-- the method m of the class at C -/
structure Dm (P : Program) (w : World) (K : PySem.W.Frag) (mg : Str → Option Value) (base : Heap) (C : Addr) (m : Str) (k : Nat) (ps : List Str) (sp : Sp) : Prop where
  ex : ∃ (f : Addr) (fd : FuncData), FnOk P w K mg base CX0 k f fd ps sp ∧ Meth K C m f ∧ Binds K fd ps []
/-- the class at C, by its __init__ -/
structure Dc (P : Program) (w : World) (K : PySem.W.Frag) (mg : Str → Option Value) (base : Heap) (x : Str) (C : Addr) (k : Nat) (ps : List Str) (sp : Sp) : Prop where
  ex : ∃ (f : Addr) (fd : FuncData), FnOk P w K mg base CX0 k f fd ps sp ∧ mg x = some (.ref C) ∧ Mk K C f ∧ Binds K fd ps []
section
variable {X : Cx} {k : Nat} {ps : List Str} {sp : Sp} {x m : Str} {e o : Expr} {es : List Expr} {t : TA} {to : TE} {C : Addr} {p apos pos : Pos}
theorem pe_d (D : Df X.prog X.w X.K X.mg X.base x k ps sp) (hr : Room k X.A) (ha : PA X (e :: es) t) (hg : Gl X x := by rfl) (hdb : (x == ("__debug__" : Str)) = false := by decide)
    (he : starEach (e :: es) X.env = (false, eval e X.env) :: starEach es X.env := by rfl) (hpl : (backTo pos (starEach es X.env)).any (·.1) = false := by rfl) : PE X (.Call (.Name x p) (e :: es) [] pos) (tCall sp [] E0 t) := by
  obtain ⟨f, fd, F, hm, hk, hb⟩ := D.ex
  exact pe_call F hr hg hm hk hb .nil pass0 ha hdb he hpl
theorem pe_dc (D : Dc X.prog X.w X.K X.mg X.base x C k ps sp) (hr : Room (k + 1) X.A) (ha : PA X (e :: es) t) (hg : Gl X x := by rfl) (hdb : (x == ("__debug__" : Str)) = false := by decide)
    (he : starEach (e :: es) X.env = (false, eval e X.env) :: starEach es X.env := by rfl) (hpl : (backTo pos (starEach es X.env)).any (·.1) = false := by rfl) : PE X (.Call (.Name x p) (e :: es) [] pos) (tMake C sp [] E0 t) := by
  obtain ⟨f, fd, F, hm, M, hb⟩ := D.ex
  exact pe_make M F hr hg hm hb .nil pass0 ha hdb he hpl
theorem pe_dm {pl : Sem Bool} (he : PE X o to) (c : Cls X.K C) (D : Dm X.prog X.w X.K X.mg X.base C m k ps sp) (hr : Room k X.A) (ha : PA X (e :: es) t)
    (hst : starEach (e :: es) X.env = (false, eval e X.env) :: starEach es X.env := by rfl) (hpl : (backTo pos (starEach es X.env)).any (·.1) = false := by rfl)
    (ht : eval (.Call (.Attribute o m apos) (e :: es) [] pos) X.env = (do
      let ov ← eval o X.env
      standAt apos.atName
      let (f, first) ← holding [ov] (getMethod ov m pl)
      callWith pos f first (backTo pos (starEach (e :: es) X.env)) (backToKw pos (keywordEach [] X.env))) := by rfl) : PE X (.Call (.Attribute o m apos) (e :: es) [] pos) (tMeth C m sp [] E0 to t) := by
  obtain ⟨f, fd, F, hm, hb⟩ := D.ex
  exact pe_meth he c hm F hr hb .nil pass0 ha hst hpl ht
end
section
variable {X : Cx} {x : Str} {pos : Pos}
theorem pe_gI {n : Int} (h : ∃ t, X.mg x = some (.int n t)) (hg : Gl X x := by rfl) (hd : (x == ("__debug__" : Str)) = false := by decide) : PE X (.Name x pos) (tC (.int n)) := by
  obtain ⟨t, e⟩ := h
  exact pe_glob hg e ⟨t, rfl⟩ hd
theorem pe_gS {z : Str} (h : ∃ t, X.mg x = some (.str z t)) (hg : Gl X x := by rfl) (hd : (x == ("__debug__" : Str)) = false := by decide) : PE X (.Name x pos) (tC (.str z)) := by
  obtain ⟨t, e⟩ := h
  exact pe_glob hg e ⟨t, rfl⟩ hd
end
/-! ### tests -/
theorem ifd {p A B : Prop} [Decidable p] (h1 : p → A) (h2 : ¬ p → B) : if decide p = true then A else B := by
  by_cases h : p
  · rw [if_pos (decide_eq_true h)]
    exact h1 h
  · rw [if_neg (by rw [decide_eq_false h]; exact Bool.false_ne_true)]
    exact h2 h
theorem ifn {p A B : Prop} [Decidable p] (h1 : ¬ p → A) (h2 : p → B) : if (!decide p) = true then A else B := by
  by_cases h : p
  · rw [if_neg (by rw [decide_eq_true h]; exact Bool.false_ne_true)]
    exact h2 h
  · rw [if_pos (by rw [decide_eq_false h]; rfl)]
    exact h1 h
theorem intV {i j : Int} (h : V.int i = V.int j) : i = j := V.int.inj h
/-! ### heaps that grow: F is the part that is spoken of, the rest of H stays -/
structure Grow (F H F' H' : Hp) : Prop where
  ff : Same F F'
  fh : Same F' H'
  hh : ∀ a o, F a = none → H a = some o → F' a = none ∧ H' a = some o
theorem Grow.refl {F H : Hp} (s : Same F H) : Grow F H F H := ⟨Same.refl _, s, fun _ _ a b => ⟨a, b⟩⟩
theorem Grow.same {F H F' H' : Hp} (s : Same F H) (g : Grow F H F' H') : Same H H' := fun a o e => by
  cases q : F a with
  | none => exact (g.hh a o q e).2
  | some u =>
    have z := s a u q
    rw [e] at z
    cases z
    exact g.fh _ _ (g.ff _ _ q)
theorem Grow.trans {F H F1 H1 F2 H2 : Hp} (a : Grow F H F1 H1) (b : Grow F1 H1 F2 H2) : Grow F H F2 H2 :=
  ⟨a.ff.trans b.ff, b.fh, fun c o h1 h2 => let ⟨z1, z2⟩ := a.hh c o h1 h2; b.hh c o z1 z2⟩
theorem same_upd {F H : Hp} (s : Same F H) (p : Addr) (o : HO) : Same (upd F p o) (upd H p o) := fun a u e => by
  by_cases h : a = p
  · subst h
    rw [upd_same] at e ⊢
    exact e
  · rw [upd_ne h] at e ⊢
    exact s a u e
theorem Grow.new {F H : Hp} (s : Same F H) {p : Addr} (o : HO) (hp : H p = none) : Grow F H (upd F p o) (upd H p o) :=
  ⟨fun a u e => by rw [upd_ne (ne_of_none e (s.free hp))]; exact e, same_upd s p o, fun a u e1 e2 => by
    have n := ne_of_none e2 hp
    rw [upd_ne n, upd_ne n]
    exact ⟨e1, e2⟩⟩
theorem same_upd1 {F H : Hp} (s : Same F H) {p : Addr} (o : HO) (hp : H p = none) : Same F (L2.upd H p o) := fun a u e => by
  rw [upd_ne (ne_of_none (s a u e) hp)]
  exact s a u e
theorem same_new {H : Hp} {p : Addr} (o : HO) (hp : H p = none) : Same H (upd H p o) := same_upd1 (Same.refl H) o hp
theorem same_put {H H' : Hp} (s : Same H H') {D : Addr} (o : HO) (hD : H D = none) : Same H (upd H' D o) := fun a u e => by
  have n : a ≠ D := ne_of_none e hD
  rw [upd_ne n]
  exact s a u e
theorem map_take {α β : Type} {xs : List α} {i : Nat} {c : α} (f : α → β) (h : xs[i]? = some c) : (xs.take (i + 1)).map f = (xs.take i).map f ++ [f c] := by
  rw [List.take_add_one, h, List.map_append]
  rfl
theorem take_lt {α β : Type} {xs : List α} {i : Nat} (f : α → β) (h : xs.length ≤ 100000) : ((xs.take i).map f).length < sizeLine := by
  rw [List.length_map, List.length_take]
  exact Nat.lt_of_le_of_lt (Nat.le_trans (Nat.min_le_right _ _) h) (by decide)
/-! ### the bag -/
structure Bag (F H : Hp) (b : Addr) : Prop where
  fh : Same F H
  fb : F b = none
  ex : ∃ (cl : Addr) (ns : List Int) (p g s c h : Int), F cl = none ∧ cl ≠ b ∧ H cl = some (.lst (ns.map V.int)) ∧ H b = some (.lst [.ref cl, .int p, .int g, .int s, .int c, .int h]) ∧ 0 ≤ p ∧ 0 ≤ g ∧ 0 ≤ s ∧ s < 2147483647
theorem Bag.grow {F H F' H' : Hp} {b : Addr} (B : Bag F H b) (g : Grow F H F' H') : Bag F' H' b := by
  obtain ⟨s, fb, cl, ns, p, gg, z, c, h, e1, e2, e3, e4, r⟩ := B
  obtain ⟨z1, z2⟩ := g.hh _ _ e1 e3
  obtain ⟨y1, y2⟩ := g.hh _ _ fb e4
  exact ⟨g.fh, y1, cl, ns, p, gg, z, c, h, z1, e2, z2, y2, r⟩
theorem Bag.new {F H : Hp} {b p : Addr} (B : Bag F H b) (o : HO) (hp : H p = none) : Bag (upd F p o) (upd H p o) b := B.grow (Grow.new B.fh o hp)
theorem Bag.put {F H : Hp} {b l : Addr} {o : HO} (B : Bag F H b) (o' : HO) (hl : F l = some o) : Bag (upd F l o') (upd H l o') b := by
  obtain ⟨s, fb, cl, ns, p, g, z, c, h, e1, e2, e3, e4, r⟩ := B
  have n1 : b ≠ l := fun q => by rw [q, hl] at fb; cases fb
  have n2 : cl ≠ l := fun q => by rw [q, hl] at e1; cases e1
  exact ⟨same_upd s l o', by rw [upd_ne n1]; exact fb, cl, ns, p, g, z, c, h, by rw [upd_ne n2]; exact e1, e2, by rw [upd_ne n2]; exact e3, by rw [upd_ne n1]; exact e4, r⟩
theorem Bag.ne {F H : Hp} {b l : Addr} {o : HO} (B : Bag F H b) (hl : F l = some o) : l ≠ b := fun q => by
  have z := B.fb
  rw [← q, hl] at z
  cases z
/-- what _law_pick(bag, many) gives: some number below many -/
def spPick : Sp := fun vs H Q _ => ∃ (F : Hp) (b : Addr) (m : Int), vs = [.ref b, .int m] ∧ 0 < m ∧ m < 1073741824 ∧ Bag F H b ∧ ∀ (r : Int) (H' : Hp), 0 ≤ r → r < m → Bag F H' b → Q (.int r) H'
theorem fmod_lo {a m : Int} (h : 0 < m) : 0 ≤ a.fmod m := Int.fmod_nonneg_of_pos a h
theorem fmod_hi {a m : Int} (h : 0 < m) : a.fmod m < m := Int.fmod_lt_of_pos a h
theorem fmod64 (x : Int) {m : Int} (h : 0 < m) (h2 : m < 4294967296) : -(2 ^ 64) < x.fmod m ∧ x.fmod m < 2 ^ 64 := by
  have a := fmod_lo (a := x) h
  have b := fmod_hi (a := x) h
  omega
theorem fdiv_lo {a m : Int} (ha : 0 ≤ a) (h : 0 < m) : 0 ≤ a.fdiv m := by
  rw [Int.fdiv_eq_ediv_of_nonneg _ (Int.le_of_lt h)]
  exact Int.ediv_nonneg ha (Int.le_of_lt h)
theorem fdiv_hi {a m : Int} (ha : 0 ≤ a) (h : 0 < m) : a.fdiv m ≤ a := by
  rw [Int.fdiv_eq_ediv_of_nonneg _ (Int.le_of_lt h)]
  exact Int.ediv_le_self _ ha
end Fm

/-! ## FmSet -/
set_option Elab.async false
set_option maxRecDepth 100000
set_option maxHeartbeats 8000000
/-! The size of a set that is made of a row of texts, whatever texts they are. -/
namespace Fm
open PySem L2 PyProof.Rows PySem.Spec
/-- how many unlike texts, the last one first -/
def disR : List Str → Nat
  | [] => 0
  | x :: r => if x ∈ r then disR r else disR r + 1
def dis (xs : List Str) : Nat := disR xs.reverse
theorem disR_le : ∀ r : List Str, disR r ≤ r.length
  | [] => Nat.le_refl _
  | x :: r => by
    have ih := disR_le r
    unfold disR
    split
    · exact Nat.le_succ_of_le ih
    · exact Nat.succ_le_succ ih
theorem disR_full : ∀ r : List Str, disR r = r.length ↔ r.Nodup
  | [] => ⟨fun _ => .nil, fun _ => rfl⟩
  | x :: r => by
    have ih := disR_full r
    have le := disR_le r
    unfold disR
    rw [List.nodup_cons]
    split
    · rename_i h
      constructor
      · intro e
        rw [List.length_cons] at e
        omega
      · intro e
        exact absurd h e.1
    · rename_i h
      rw [List.length_cons]
      constructor
      · intro e
        exact ⟨h, ih.mp (by omega)⟩
      · intro e
        rw [ih.mpr e.2]
theorem dis_le (xs : List Str) : dis xs ≤ xs.length := by
  have h := disR_le xs.reverse
  rw [List.length_reverse] at h
  exact h
theorem dis_full (xs : List Str) : dis xs = xs.length ↔ xs.Nodup := by
  have h := disR_full xs.reverse
  rw [List.length_reverse] at h
  refine h.trans ?_
  show List.Pairwise (· ≠ ·) xs.reverse ↔ List.Pairwise (· ≠ ·) xs
  rw [List.pairwise_reverse]
  exact ⟨fun z => z.imp Ne.symm, fun z => z.imp Ne.symm⟩
theorem dis_take {xs : List Str} {i : Nat} {x : Str} (h : xs[i]? = some x) : dis (xs.take (i + 1)) = if x ∈ xs.take i then dis (xs.take i) else dis (xs.take i) + 1 := by
  have e : xs.take (i + 1) = xs.take i ++ [x] := by
    rw [List.take_add_one, h]
    rfl
  unfold dis
  rw [e, List.reverse_append]
  show (if x ∈ (xs.take i).reverse then _ else _) = _
  by_cases m : x ∈ xs.take i
  · rw [if_pos m, if_pos (List.mem_reverse.mpr m)]
    rfl
  · rw [if_neg m, if_neg fun z => m (List.mem_reverse.mp z)]
    rfl
abbrev among (l : List Str) : Str → Bool := fun k => l.any (· == k)
theorem among_mem {l : List Str} {x : Str} : among l x = true ↔ x ∈ l := by
  show l.any (· == x) = true ↔ x ∈ l
  rw [List.any_eq_true]
  constructor
  · rintro ⟨y, hy, e⟩
    rw [← eq_of_beq e]
    exact hy
  · intro h
    exact ⟨x, h, beq_self_eq_true x⟩
theorem among_take {xs : List Str} {i : Nat} {x : Str} (h : xs[i]? = some x) (k : Str) : (among (xs.take i) k || decide (k = x)) = among (xs.take (i + 1)) k := by
  have e : xs.take (i + 1) = xs.take i ++ [x] := by
    rw [List.take_add_one, h]
    rfl
  show _ = (xs.take (i + 1)).any (· == k)
  rw [e, List.any_append]
  by_cases q : k = x
  · subst q
    simp
  · have q' : (x == k) = false := by simpa using fun z : x = k => q z.symm
    simp [q, q']
section
variable {prog : Program} {w : World} {A : Around} {R : Result → Shared → Prop} {I : Addr} {fp wr : List Addr} {G : Array GenState → Array GenState → Prop} {n : Nat} {Pz : Nat → Value → Prop} {St : Nat → Shared → Prop}
/-- the loop that fills a set: behind i items it holds those items -/
theorem fill_strs (W : WalksS prog w A.in1 I fp wr G n Pz St) (S : Addr) (hS : S ∉ fp) (xs : List Str) (hn : xs.length = n) (hb : n + 1 < scanBound) (hv : ∀ i v, Pz i v → ∃ t x, v = .str x t ∧ xs[i]? = some x) :
    ∀ (k i : Nat) (s : Shared), n - i = k → i ≤ n → St i s → s.heap.SetOf (PySem.strKind prog w) S (among (xs.take i)) (dis (xs.take i)) →
      (∀ s', Moved (S :: wr) G s s' → s'.heap.SetOf (PySem.strKind prog w) S (among xs) (dis xs) → R (.ok (.ret .none)) s') →
      codeAny (model prog w) A (.builtin "set.update.loop" ⟨[.ref S, .ref I], []⟩) R s := by
  have out : S ∉ wr := fun z => hS (W.sub _ z)
  have more : ∀ b ∈ wr, b ∈ S :: wr := fun b z => List.mem_cons_of_mem _ z
  intro k
  induction k with
  | zero =>
    intro i s e0 le st set fin
    obtain rfl : i = n := by omega
    refine codeAny_builtin F.entry_set_update_loop ?_
    rw [Around.under_plainId F.plain_set_update_loop _]
    show wpAny _ A.in1 (pyNext (.ref I) >>= _) _ _ s
    refine wpAny_bind (W.done s _ _ st fun s' mv => ?_)
    show wpAny _ A.in1 (ret Value.none) _ _ s'
    refine wpAny_pure (fin s' (mv.mono more) ?_)
    obtain ⟨o, es, ep, t, ho, rest⟩ := set
    rw [← hn, List.take_length] at rest
    exact ⟨o, es, ep, t, mv.heap S _ out ho, rest⟩
  | succ k ih =>
    intro i s e0 le st set fin
    have lt : i < n := by omega
    refine codeAny_builtin F.entry_set_update_loop ?_
    rw [Around.under_plainId F.plain_set_update_loop _]
    show wpAny _ A.in1 (pyNext (.ref I) >>= _) _ _ s
    refine wpAny_bind (W.item i s _ _ lt st fun v s' pv st' mv => ?_)
    obtain ⟨t, x, rfl, hx⟩ := hv i v pv
    have set' : s'.heap.SetOf (PySem.strKind prog w) S (among (xs.take i)) (dis (xs.take i)) := by
      obtain ⟨o, es, ep, tb, ho, rest⟩ := set
      exact ⟨o, es, ep, tb, mv.heap S _ out ho, rest⟩
    show wpAny _ A.in1 (holding [Value.str x t] (setAdd S (.str x t)) >>= _) _ _ s'
    refine wpAny_bind (wpAny_holding ?_)
    unfold setAdd
    refine wpAny_holding ?_
    refine wpAny_bind ((PySem.strKind prog w).pyHash (k := x) (strKind_is _ _ _ _) ?_)
    have small : dis (xs.take i) + 1 < scanBound := by
      have z := dis_le (xs.take i)
      rw [List.length_take] at z
      omega
    refine wpAny_setAddHashed_of (knd := PySem.strKind prog w) (s := { s' with toks := s'.toks + 1 }) (strKind_is _ _ _ _) rfl set' small fun h' sb set2 => ?_
    have set3 : h'.SetOf (PySem.strKind prog w) S (among (xs.take (i + 1))) (dis (xs.take (i + 1))) := by
      refine SetOf_congr set2 (fun k' => among_take hx k') ?_
      rw [dis_take hx]
      by_cases m : x ∈ xs.take i
      · rw [if_pos m, if_pos (among_mem.mpr m)]
      · rw [if_neg m, if_neg fun z => m (among_mem.mp z)]
    refine wpAny_pure ⟨plainId_quiet F.plain_set_update_loop _, ih (i + 1) _ (by omega) lt (W.frame _ s' _ _ st' (Nat.le_succ _) fun b hb o e => ?_) set3 fun s3 mv3 done => ?_⟩
    · rw [sb.2 b fun z : b = S => hS (by rw [← z]; exact hb)]
      exact e
    · refine fin s3 (Moved.trans W.gtrans ((mv.mono more).then_heap (Nat.le_succ _) fun b o hb e => ?_) mv3) done
      rw [sb.2 b fun z : b = S => hb (by rw [z]; exact List.mem_cons_self)]
      exact e
end
def newSet (led : Bool) : Obj := { cls := .type "set", dict := none, data := .set #[] 0 (.fresh 0 0 led) }
section
variable {prog : Program} {w : World} {A : Around} {E : Value → Shared → Prop} {s : Shared}
set_option maxHeartbeats 16000000 in
/-- set(xs), xs a list of texts -/
theorem set_of_list {l : Addr} {items : Array Value} {xs : List Str} {Q : Value → Shared → Prop} (hh : A.handled = none) (hl : s.heap.IsList l items) (hi : StrsAre items.toList xs) (hn : xs.length + 1 < scanBound)
    (k : ∀ (h' : Heap) (tk : Nat), h'.SetOf (PySem.strKind prog w) s.heap.objs.size (among xs) (dis xs) → (∀ b o, b < s.heap.objs.size → s.heap.get? b = some o → h'.get? b = some o) → Q (.ref s.heap.objs.size) { s with heap := h', toks := tk }) :
    wpAny (model prog w) A (call (.type "set") [.ref l]) Q E s := by
  obtain ⟨cc, tl, mro⟩ := PySem.F.called_set.mro
  have made := PySem.F.called_set.made
  have isub := PySem.F.called_set.sub
  refine wpAny_call (codeAny_of_tree ?_)
  show wpAny _ _ (callAny (.type "set") _) _ _ _
  refine wpAny_pure ⟨Code.quiet_builtin _ (by decide +kernel), codeAny_builtin PySem.F.entry_type_call ?_⟩
  rw [Around.under_plain (weight_type_call_type "set" [.ref l] []) rfl]
  have f1 := PySem.F.called_set.notType
  have f2 := PySem.F.called_set.canCreate
  have f3 := PySem.F.typeCall_set_1 (.ref l)
  repeat (any_goals (first | assumption | wp_step))
  refine codeAny_mono (code_set_new_1 (.ref l) (E := E) (Q₁ := fun ob s1 => ∃ led : Bool, ob = .ref s.heap.objs.size ∧ s1 = { s with heap := s.heap.push (newSet led) }) fun led => ⟨led, rfl, rfl⟩) fun r s1 hr => ?_
  cases r with
  | error e => exact hr
  | ok fl =>
    cases fl with
    | next => exact hr.elim
    | brk => exact hr.elim
    | cont => exact hr.elim
    | ret ob =>
      obtain ⟨led, rfl, rfl⟩ := hr
      have atS : (s.heap.push (newSet led)).get? s.heap.objs.size = some (newSet led) := Heap.get?_push_size _ rfl
      have ty : Shared.TypeIs { s with heap := s.heap.push (newSet led) } (.ref s.heap.objs.size) "set" := ⟨_, atS, rfl⟩
      have i1 := PySem.F.called_set.init.lookup
      have i2 := PySem.F.called_set.init.bind (.ref s.heap.objs.size)
      repeat (any_goals (first | assumption | wp_step))
      refine codeAny_mono (codeAny_call_builtin (R := wants (fun r s2 => r = .none ∧ ∃ h' tk, s2 = { s with heap := h', toks := tk } ∧ h'.SetOf (PySem.strKind prog w) s.heap.objs.size (among xs) (dis xs) ∧ (∀ b o, b < s.heap.objs.size → s.heap.get? b = some o → h'.get? b = some o)) E) PySem.F.called_set.init.plain PySem.F.entry_set_init (check_set_init_1 ty ?_)) fun r2 s2 hr2 => ?_
      · obtain ⟨ol, hol, hcl, nl, hdl⟩ := hl
        obtain ⟨oc, od, oda, osl⟩ := ol
        simp only at hcl hdl
        subst hcl hdl
        have hol' : (s.heap.push (newSet led)).get? l = some { cls := .type "list", dict := od, data := .seq items nl, slots := osl } := Heap.get?_push_of_some _ hol
        have g1 := PySem.F.sub_list_set
        have g2 := PySem.F.sub_list_frozenset
        have g3 : (Value.type "list" == Value.type "dict") = false := by decide
        have hl1 : (s.heap.push (newSet led)).IsList l items := ⟨_, hol', rfl, nl, rfl⟩
        unfold newSet at hol' hl1 ty atS ⊢
        unfold Builtin.«set.__init__» noKeywords Builtin.Frozenset.updateFrom
        generalize hPI : pyIter = PI
        wp_walk
        subst hPI
        refine wpAny_pyIter_list hl1 ?_
        refine wpAny_bind (wpAny_runValue ?_)
        have ls : l < s.heap.objs.size := Heap.lt_size hol
        have hh3 : A.in1.in1.in1.handled = none := by simp [hh]
        have sz : (s.heap.push (newSet led)).objs.size = s.heap.objs.size + 1 := Heap.size_push _ _
        unfold newSet at sz
        have n1 : l ≠ (s.heap.push { cls := .type "set", dict := none, data := .set #[] 0 (.fresh 0 0 led) }).objs.size := by
          rw [sz]
          exact Nat.ne_of_lt (Nat.lt_succ_of_lt ls)
        have n2 : s.heap.objs.size ∉ [(s.heap.push { cls := .type "set", dict := none, data := .set #[] 0 (.fresh 0 0 led) }).objs.size, l] := by
          rw [sz]
          intro z
          rcases List.mem_cons.mp z with z | z
          · exact absurd z (Nat.ne_of_lt (Nat.lt_succ_self _))
          · exact absurd (List.mem_singleton.mp z) (Nat.ne_of_gt ls)
        have hsz : xs.length = items.size := by rw [← StrsAre.len_eq hi, Array.length_toList]
        have hval : ∀ (i : Nat) (v : Value), items[i]? = some v → ∃ t x, v = .str x t ∧ xs[i]? = some x := fun i v hv => by
          obtain ⟨t, e⟩ := SS.strs_at hi i v (by rw [Array.getElem?_toList]; exact hv)
          have hlt : i < xs.length := by
            rw [hsz]
            exact (Array.getElem?_eq_some_iff.mp hv).1
          exact ⟨t, xs[i], by
            rw [e, List.getD_eq_getElem?_getD, List.getElem?_eq_getElem hlt]
            rfl, List.getElem?_eq_getElem hlt⟩
        refine fill_strs ((Walks.list hh3 _ l n1 items).toS) s.heap.objs.size n2 xs hsz (by rw [← hsz]; exact hn) hval (items.size - 0) 0 _ (by omega) (Nat.zero_le _)
          ⟨⟨_, Heap.get?_push_size _ rfl, rfl, rfl⟩, (hl1.push _)⟩ ?hS0 ?hR
        case hS0 =>
          exact SetOf_congr ((setObjOf_fresh (knd := PySem.strKind prog w) led).setOf (Heap.get?_push_of_some _ atS) (by unfold scanBound; omega)) (fun _ => rfl) rfl
        case hR =>
          intro s' mv set'
          obtain ⟨h', g', d', tk', os'⟩ := s'
          obtain rfl : g' = s.gens := mv.gens
          obtain rfl : d' = s.drawn := mv.drawn
          obtain rfl : os' = s.os := mv.os
          show wpAny _ _ _ _ _ _
          refine wpAny_pure ?_
          show wpAny _ _ (ret Value.none) _ _ _
          refine wpAny_pure ⟨rfl, h', tk', rfl, set', fun b o hb e => ?_⟩
          refine mv.heap b o ?_ (Heap.get?_push_of_some _ (Heap.get?_push_of_some _ e))
          rw [sz]
          intro z
          rcases List.mem_cons.mp z with z | z
          · exact absurd z (Nat.ne_of_lt hb)
          · exact absurd (List.mem_singleton.mp z) (Nat.ne_of_lt (Nat.lt_succ_of_lt hb))
      · cases r2 with
        | error e => exact hr2
        | ok fl2 =>
          cases fl2 with
          | next => exact hr2.elim
          | brk => exact hr2.elim
          | cont => exact hr2.elim
          | ret r =>
            obtain ⟨rfl, h', tk, rfl, set', old⟩ := hr2
            repeat (any_goals (first | assumption | wp_step))
            exact k _ _ set' old

set_option maxHeartbeats 16000000 in
/-- set(xs), xs a tuple of texts -/
theorem set_of_tuple {l : Addr} {items : Array Value} {xs : List Str} {Q : Value → Shared → Prop} (hh : A.handled = none) (hl : s.heap.IsTuple l items) (hi : StrsAre items.toList xs) (hn : xs.length + 1 < scanBound)
    (k : ∀ (h' : Heap) (tk : Nat), h'.SetOf (PySem.strKind prog w) s.heap.objs.size (among xs) (dis xs) → (∀ b o, b < s.heap.objs.size → s.heap.get? b = some o → h'.get? b = some o) → Q (.ref s.heap.objs.size) { s with heap := h', toks := tk }) :
    wpAny (model prog w) A (call (.type "set") [.ref l]) Q E s := by
  obtain ⟨cc, tl, mro⟩ := PySem.F.called_set.mro
  have made := PySem.F.called_set.made
  have isub := PySem.F.called_set.sub
  refine wpAny_call (codeAny_of_tree ?_)
  show wpAny _ _ (callAny (.type "set") _) _ _ _
  refine wpAny_pure ⟨Code.quiet_builtin _ (by decide +kernel), codeAny_builtin PySem.F.entry_type_call ?_⟩
  rw [Around.under_plain (weight_type_call_type "set" [.ref l] []) rfl]
  have f1 := PySem.F.called_set.notType
  have f2 := PySem.F.called_set.canCreate
  have f3 := PySem.F.typeCall_set_1 (.ref l)
  repeat (any_goals (first | assumption | wp_step))
  refine codeAny_mono (code_set_new_1 (.ref l) (E := E) (Q₁ := fun ob s1 => ∃ led : Bool, ob = .ref s.heap.objs.size ∧ s1 = { s with heap := s.heap.push (newSet led) }) fun led => ⟨led, rfl, rfl⟩) fun r s1 hr => ?_
  cases r with
  | error e => exact hr
  | ok fl =>
    cases fl with
    | next => exact hr.elim
    | brk => exact hr.elim
    | cont => exact hr.elim
    | ret ob =>
      obtain ⟨led, rfl, rfl⟩ := hr
      have atS : (s.heap.push (newSet led)).get? s.heap.objs.size = some (newSet led) := Heap.get?_push_size _ rfl
      have ty : Shared.TypeIs { s with heap := s.heap.push (newSet led) } (.ref s.heap.objs.size) "set" := ⟨_, atS, rfl⟩
      have i1 := PySem.F.called_set.init.lookup
      have i2 := PySem.F.called_set.init.bind (.ref s.heap.objs.size)
      repeat (any_goals (first | assumption | wp_step))
      refine codeAny_mono (codeAny_call_builtin (R := wants (fun r s2 => r = .none ∧ ∃ h' tk, s2 = { s with heap := h', toks := tk } ∧ h'.SetOf (PySem.strKind prog w) s.heap.objs.size (among xs) (dis xs) ∧ (∀ b o, b < s.heap.objs.size → s.heap.get? b = some o → h'.get? b = some o)) E) PySem.F.called_set.init.plain PySem.F.entry_set_init (check_set_init_1 ty ?_)) fun r2 s2 hr2 => ?_
      · obtain ⟨ol, hol, hcl, nl, hdl⟩ := hl
        obtain ⟨oc, od, oda, osl⟩ := ol
        simp only at hcl hdl
        subst hcl hdl
        have hol' : (s.heap.push (newSet led)).get? l = some { cls := .type "tuple", dict := od, data := .seq items nl, slots := osl } := Heap.get?_push_of_some _ hol
        have g1 := PySem.F.sub_tuple_set
        have g2 := PySem.F.sub_tuple_frozenset
        have g3 : (Value.type "tuple" == Value.type "dict") = false := by decide
        have hl1 : (s.heap.push (newSet led)).IsTuple l items := ⟨_, hol', rfl, nl, rfl⟩
        unfold newSet at hol' hl1 ty atS ⊢
        unfold Builtin.«set.__init__» noKeywords Builtin.Frozenset.updateFrom
        generalize hPI : pyIter = PI
        wp_walk
        subst hPI
        refine wpAny_pyIter_tuple hl1 ?_
        refine wpAny_bind (wpAny_runValue ?_)
        have ls : l < s.heap.objs.size := Heap.lt_size hol
        have hh3 : A.in1.in1.in1.handled = none := by simp [hh]
        have sz : (s.heap.push (newSet led)).objs.size = s.heap.objs.size + 1 := Heap.size_push _ _
        unfold newSet at sz
        have n1 : l ≠ (s.heap.push { cls := .type "set", dict := none, data := .set #[] 0 (.fresh 0 0 led) }).objs.size := by
          rw [sz]
          exact Nat.ne_of_lt (Nat.lt_succ_of_lt ls)
        have n2 : s.heap.objs.size ∉ [(s.heap.push { cls := .type "set", dict := none, data := .set #[] 0 (.fresh 0 0 led) }).objs.size, l] := by
          rw [sz]
          intro z
          rcases List.mem_cons.mp z with z | z
          · exact absurd z (Nat.ne_of_lt (Nat.lt_succ_self _))
          · exact absurd (List.mem_singleton.mp z) (Nat.ne_of_gt ls)
        have hsz : xs.length = items.size := by rw [← StrsAre.len_eq hi, Array.length_toList]
        have hval : ∀ (i : Nat) (v : Value), items[i]? = some v → ∃ t x, v = .str x t ∧ xs[i]? = some x := fun i v hv => by
          obtain ⟨t, e⟩ := SS.strs_at hi i v (by rw [Array.getElem?_toList]; exact hv)
          have hlt : i < xs.length := by
            rw [hsz]
            exact (Array.getElem?_eq_some_iff.mp hv).1
          exact ⟨t, xs[i], by
            rw [e, List.getD_eq_getElem?_getD, List.getElem?_eq_getElem hlt]
            rfl, List.getElem?_eq_getElem hlt⟩
        refine fill_strs ((Walks.tuple hh3 _ l n1 items).toS) s.heap.objs.size n2 xs hsz (by rw [← hsz]; exact hn) hval (items.size - 0) 0 _ (by omega) (Nat.zero_le _)
          ⟨⟨_, Heap.get?_push_size _ rfl, rfl, rfl⟩, (hl1.push _)⟩ ?hS0 ?hR
        case hS0 =>
          exact SetOf_congr ((setObjOf_fresh (knd := PySem.strKind prog w) led).setOf (Heap.get?_push_of_some _ atS) (by unfold scanBound; omega)) (fun _ => rfl) rfl
        case hR =>
          intro s' mv set'
          obtain ⟨h', g', d', tk', os'⟩ := s'
          obtain rfl : g' = s.gens := mv.gens
          obtain rfl : d' = s.drawn := mv.drawn
          obtain rfl : os' = s.os := mv.os
          show wpAny _ _ _ _ _ _
          refine wpAny_pure ?_
          show wpAny _ _ (ret Value.none) _ _ _
          refine wpAny_pure ⟨rfl, h', tk', rfl, set', fun b o hb e => ?_⟩
          refine mv.heap b o ?_ (Heap.get?_push_of_some _ (Heap.get?_push_of_some _ e))
          rw [sz]
          intro z
          rcases List.mem_cons.mp z with z | z
          · exact absurd z (Nat.ne_of_lt hb)
          · exact absurd (List.mem_singleton.mp z) (Nat.ne_of_lt (Nat.lt_succ_of_lt hb))
      · cases r2 with
        | error e => exact hr2
        | ok fl2 =>
          cases fl2 with
          | next => exact hr2.elim
          | brk => exact hr2.elim
          | cont => exact hr2.elim
          | ret r =>
            obtain ⟨rfl, h', tk, rfl, set', old⟩ := hr2
            repeat (any_goals (first | assumption | wp_step))
            exact k _ _ set' old
end
section
variable {X : Cx}
/-- len(set(xs)) -/
def tLenS (K : PySem.W.Frag) (ta : TE) : TE := fun σ H Q => ta σ H fun x H1 => ∃ (l : Addr) (xs : List Str), x = .ref l ∧ (SqL K H1 l (xs.map V.str) ∨ SqT K H1 l (xs.map V.str)) ∧ xs.length ≤ 100 ∧ Q (.int (dis xs)) H1
theorem small100 {n : Nat} (h : n ≤ 100) : n + 1 < scanBound := by
  unfold scanBound
  omega
theorem pe_lenS {a : Expr} {ta : TE} {p p2 q pos : Pos} (hc : X.calm = true) (hm : X.mg "len" = none) (hm2 : X.mg "set" = none) (ha : PE X a ta) (hg : Gl X "len" := by rfl) (hg2 : Gl X "set" := by rfl)
    (na : starEach [a] X.env = (false, eval a X.env) :: starEach [] X.env := by rfl) : PE X (.Call (.Name "len" p) [.Call (.Name "set" p2) [a] [] q] [] pos) (tLenS X.K ta) := by
  refine ⟨fun pins s σ H Q I h => ?_⟩
  refine Call_ (ld_blt I hg hm boot_len ?_)
  refine callWith_builtin1 (args_cons ?_ rfl) rfl rfl
  refine Call_ (ld_blt I hg2 hm2 boot_set ?_)
  refine callWith_type1 (args_cons (thn (ha.run pins s σ H _ I h) fun v s1 ⟨x, H1, I1, r1, q1⟩ => args_nil ?_) na) na rfl
  obtain ⟨l, xs, rfl, hq, h1, q1⟩ := q1
  cases r1
  have fin : ∀ (h' : Heap) (tk : Nat), h'.SetOf (PySem.strKind X.prog X.w) s1.heap.objs.size (among xs) (dis xs) → (∀ b o, b < s1.heap.objs.size → s1.heap.get? b = some o → h'.get? b = some o) →
      wpAny (model X.prog X.w) X.A (spliced (backTo pos (starEach [] X.env))) (fun vs s2 => wpAny (model X.prog X.w) X.A (call (.builtin "len") (Value.ref s1.heap.objs.size :: vs)) (EP X pins σ Q) X.xe s2) X.xe { s1 with heap := h', toks := tk } := fun h' tk hS hk => by
    refine args_nil ?_
    obtain ⟨o, es, ep, t, ho, hex, hd, _, _, _, hf, hn⟩ := hS
    have I2 : Inv X pins σ H1 { s1 with heap := h', toks := tk } := I1.kept fun b o e => hk b o (Heap.lt_size e) e
    have le := dis_le xs
    refine call_len_set ho hex hd hf (by rw [hn]; omega) ⟨.int (dis xs), H1, I2.tok _, ⟨_, by rw [hn]⟩, q1⟩
  rcases hq with hq | hq
  · obtain ⟨its, r, pl, hz⟩ := I1.list hq
    exact set_of_list (I1.ok.hd hc) pl.isList (by simpa using strsAre_of r) (small100 h1) fin
  · obtain ⟨its, r, pl, hz⟩ := I1.tuple hq
    exact set_of_tuple (I1.ok.hd hc) pl (by simpa using strsAre_of r) (small100 h1) fin
end
end Fm

/-! ## FmIter -/
set_option Elab.async false
set_option maxRecDepth 100000
set_option maxHeartbeats 4000000
/-! Walks over what may be a list or a tuple; enumerate of a tuple. -/
namespace Fm
open PySem L2 PySem.Spec PyProof.Rows
open PySem.SeqAt
open MeetsSeq MeetsSeq2 MeetsSeq3 SeqRoads2
theorem draws_tuple {prog : Program} {w : World} {A : Around} (hh : A.handled = none) (it l : Addr) (hne : l ≠ it) (items : Array Value) :
    Draws prog w A it [it, l] items.size (fun i v => items[i]? = some v) (fun i h => h.IsTupleIter it l i ∧ h.IsTuple l items) where
  live := fun _ _ z => let ⟨o, ho, _⟩ := z.1; ⟨o, ho⟩
  frame := fun _ _ _ z k => ⟨z.1.at fun o e => k it (by simp) o e, let ⟨o, ho, r⟩ := z.2; ⟨o, k l (by simp) o ho, r⟩⟩
  item := fun i s Q E hi z q => RZ.nextOf_tuple_item z.1 z.2 (x := items[i]) (by simp [hi]) fun h' it' sb => q _ h' s.toks (by simp [hi]) ⟨it', let ⟨o, ho, r⟩ := z.2; ⟨o, (sb.2 l hne).trans ho, r⟩⟩ sb
  done := fun s Q E z q => RZ.nextOf_tuple_end hh z.1 z.2 (by simp) q
theorem meets_enum_tuple (l : Addr) (items : Array Value) (n : Nat) (dct : Option Addr) (sl : Array (Option Value)) :
    Meets (Builtin.«enumerate.__new__» ⟨[.type "enumerate", .ref l], []⟩) (fun _ R s => s.heap.get? l = some { cls := .type "tuple", dict := dct, data := .seq items n, slots := sl } ∧
      R (.ok (.ret (.ref (s.heap.push { cls := .type "tuple_iterator", data := .fields #[.ref l, .int 0 0] }).objs.size)))
        { s with heap := (s.heap.push { cls := .type "tuple_iterator", data := .fields #[.ref l, .int 0 0] }).push { cls := .type "enumerate", data := .fields #[.none, .bool false, .ref s.heap.objs.size, rawInt 0, .none, .none] } }) :=
  .of_wp fun prog w A R s h => by
    obtain ⟨hp, g, d, tk, os⟩ := s
    obtain ⟨hl, h⟩ := h
    have sub := sub_enumerate
    have tup : Heap.IsTuple (Shared.heap ⟨hp, g, d, tk, os⟩) l items := ⟨_, hl, rfl, n, rfl⟩
    wp_walk using AutoSeq1.wpAny_loadPart' hl
    refine wpAny_stack_any fun st => wpAny_pure ?_
    split
    · rename_i c _ _ _ _ _
      cases (c == Value.type "enumerate") <;>
        (wp_walk using AutoSeq1.wpAny_loadPart' hl, wpAny_pyIter_tuple tup; exact ⟨_, rfl, h⟩)
    · wp_walk using AutoSeq1.wpAny_loadPart' hl, wpAny_pyIter_tuple tup
      exact ⟨_, rfl, h⟩
section
variable {prog : Program} {w : World} {A : Around} {E : Value → Shared → Prop} {s : Shared}
theorem call_enum_tuple {l : Addr} {items : Array Value} {Q : Value → Shared → Prop} (ht : s.heap.IsTuple l items)
    (k : ∀ h', IsEnum h' (s.heap.objs.size + 1) s.heap.objs.size 0 .none → h'.IsTupleIter s.heap.objs.size l 0 → (∀ b o, s.heap.get? b = some o → h'.get? b = some o) → Q (.ref (s.heap.objs.size + 1)) { s with heap := h' }) :
    wpAny (model prog w) A (call (.type "enumerate") [.ref l]) Q E s := by
  obtain ⟨⟨c, dct, dt, sl⟩, hl, hc, n, hd⟩ := ht
  simp only at hc hd
  subst hc hd
  refine callType_new F.called_enumerate (by decide) (F.typeCall_enumerate_1 _) (F.newCall_enumerate_1 _) (fun ob => F.args_object_init_2 ob _) F.entry_enumerate_new (meets_enum_tuple l items n dct sl) ⟨hl, ?_⟩
  have sz : (s.heap.push { cls := .type "tuple_iterator", data := .fields #[.ref l, .int 0 0] }).objs.size = s.heap.objs.size + 1 := Heap.size_push ..
  show _ ∧ _
  have he := Heap.get?_push_size (s.heap.push { cls := .type "tuple_iterator", data := .fields #[.ref l, .int 0 0] }) (o := { cls := .type "enumerate", data := .fields #[.none, .bool false, .ref s.heap.objs.size, rawInt 0, .none, .none] }) rfl
  rw [sz] at he ⊢
  exact ⟨⟨_, he, rfl⟩, k _ he ⟨_, Heap.get?_push_of_some _ (Heap.get?_push_size _ rfl), rfl, rfl⟩ fun b o x => Heap.get?_push_of_some _ (Heap.get?_push_of_some _ x)⟩
end
/-- the tuple at a, its items in new pairs with their numbers -/
def Iet (K : PySem.W.Frag) (a : Addr) : It :=
  ⟨fun i H => ∃ xs x, SqT K H a xs ∧ xs[i]? = some x, fun i H v H' => ∃ T x, v = .ref T ∧ H T = none ∧ H' = upd H T (.tup [.int (i : Nat), x]) ∧ ∀ xs, SqT K H a xs → xs[i]? = some x, fun i H => ∃ xs, SqT K H a xs ∧ xs.length ≤ i⟩
theorem turn_et {P : Program} {w : World} {K : PySem.W.Frag} {elts : List Expr} {kk : Nat} {tpos : Pos} (a e it : Addr) (hai : a ≠ it) (hae : e ≠ a) :
    Turn P w K (.Tuple elts kk tpos) (Iet K a) [e, it] e (fun i h => (∃ old, IsEnum h e it ((i : Nat) : Int) old) ∧ h.IsTupleIter it a i ∧ e ≠ it) where
  mem := List.mem_cons_self
  obj := fun i h st b hb => by
    obtain ⟨⟨old, he⟩, ⟨o, ho, hc, hd⟩, _⟩ := st
    rcases List.mem_cons.mp hb with z | z
    · rw [z]
      exact ⟨_, he, fun v q => nomatch q⟩
    · rw [List.mem_singleton.mp z]
      exact ⟨o, ho, fun v q => by rw [hd] at q; cases q⟩
  keep := fun i h h' st k => by
    obtain ⟨⟨old, he⟩, hi, hne⟩ := st
    exact ⟨⟨old, k e (by simp) _ he⟩, hi.at fun o q => k it (by simp) o q, hne⟩
  item := by
    intro X hP hw hK hc i pins s σ H E I hf st hg
    subst hP hw hK
    obtain ⟨⟨old, he⟩, hit, hne⟩ := st
    obtain ⟨xs, x, hq, hx⟩ := hg
    obtain ⟨its, rv, tp, hz⟩ := I.tuple hq
    obtain ⟨u, hu, ru⟩ := rv.get hx
    have el : e < s.heap.objs.size := Heap.lt_size he
    have il : it < s.heap.objs.size := by
      obtain ⟨_, q, _⟩ := hit
      exact Heap.lt_size q
    have lt : i < its.toArray.size := by
      rw [List.size_toArray]
      exact (List.getElem?_eq_some_iff.mp hu).1
    have out : e ∉ [it, a] := by
      intro z
      rcases List.mem_cons.mp z with z | z
      · exact hne z
      · exact hae (List.mem_singleton.mp z)
    refine wpAny_pyNext_enum_itemD (draws_tuple (by show X.A.in1.handled = none; simpa using I.ok.hd hc) it a hai its.toArray) he ⟨hit, tp⟩ lt hne out fun y h' tk py ho hst' hT hsz hk => ?_
    obtain rfl : u = y := by
      have z : its.toArray[i]? = some u := by simpa using hu
      rw [z] at py
      exact Option.some.inj py
    refine ⟨_, rfl, wpAny_letOwnedTupleGo_enum (s := { s with heap := h', toks := tk + 1 }) ho fun h2 he2 sb => ?_⟩
    have hT2 : h2.get? s.heap.objs.size = some { cls := .type "tuple", data := .seq #[.int i tk, u] } := (sb.2 _ (Nat.ne_of_gt el)).trans hT
    have new : ObjOk X.prog X.w (upd H s.heap.objs.size (.tup [.int (i : Nat), x])) h2 s.heap.objs.size (.tup [.int (i : Nat), x]) :=
      ⟨by show 2 ≤ sizeLine; decide, [.int i tk, u], .cons ⟨_, rfl⟩ (.cons ru .nil), ⟨_, hT2, rfl, _, rfl⟩⟩
    have I1 : Inv X pins σ (upd H s.heap.objs.size (.tup [.int (i : Nat), x])) { s with heap := h2, toks := tk + 1 } :=
      I.turnedNew (ch := [e, it]) (fun b ob hb q => (sb.2 b (fun z => hb (by simp [z]))).trans (hk b ob (fun z => hb (by simp [z])) (fun z => hb (by simp [z])) q)) hf (Nat.le_refl _) new
    refine ⟨.ref s.heap.objs.size, _, I1, rfl, ⟨_, x, rfl, I.hok.fresh (Nat.le_refl _), rfl, fun ys hy => by rw [I.tuple_inj hy hq]; exact hx⟩, ⟨⟨u, ?_⟩, hst'.1.at fun o q => (sb.2 it (Ne.symm hne)).trans q, hne⟩, fun b hb => ?_⟩
    · rw [show ((i + 1 : Nat) : Int) = (i : Int) + 1 from rfl]
      exact he2
    · have lt' : b < s.heap.objs.size := by
        rcases List.mem_cons.mp hb with z | z
        · rw [z]; exact el
        · rw [List.mem_singleton.mp z]; exact il
      rw [upd_ne (Nat.ne_of_lt lt')]
      exact (hf b hb).1
  done := by
    intro X hP hw hK hc i pins s σ H E I hf st hg
    subst hP hw hK
    obtain ⟨⟨old, he⟩, hit, hne⟩ := st
    obtain ⟨xs, hq, hx⟩ := hg
    obtain ⟨its, rv, tp, hz⟩ := I.tuple hq
    obtain ⟨f0, f1, f2, f3, f4, f5⟩ := hf it (by simp)
    have len := rv.length
    have hh : X.A.in1.handled = none := by simpa using I.ok.hd hc
    have hT : s.TypeIs (.ref e) "enumerate" := ⟨_, he, rfl⟩
    unfold pyNext
    refine wpAny_bind (wpAny_attempt (wpAny_callSpecial?_slot (name := Str.ofString "__next__") hT F.slot_enumerate_next (wpAny_call_entry F.slot_enumerate_next hT F.entry_enumerate_next ?_ (F.args_enumerate_next_1 _))))
    show wpAny _ _ (field (.ref e) 2 >>= _) _ _ _
    refine wpAny_bind (wpAny_field he rfl (x := .ref it) rfl ?_)
    refine wpAny_bind (RZ.nextOf_tuple_end hh hit tp (by simp; omega) fun h' x he' hx' => ?_)
    obtain ⟨o, ho, hc'⟩ := hx'
    refine wpAny_bind (wpAny_isInstance (T := "StopIteration") (b := true) ⟨o, ho, hc'⟩ isSubtype_stop ?_)
    exact wpAny_pure ⟨rfl, I.turned (t' := s.toks) (fun b o hb q => he' b o hb q) f0 f1 f3 f4 f5⟩
  self := fun A i s Q E st h => let ⟨⟨_, he⟩, _⟩ := st; wpAny_pyIter_enum he h
theorem walk_et {K : PySem.W.Frag} {a : Addr} {xs : List V} : Walk (Iet K a) xs.length (fun H => SqT K H a xs) (YPair (fun i => some (.int (i : Nat))) (fun i => xs[i]?)) := by
  refine ⟨fun i _ hi q => ⟨xs, xs[i], q, by simp [hi]⟩, fun _ q => ⟨xs, q, Nat.le_refl _⟩, fun i H v H' _ q y => ?_⟩
  obtain ⟨T, x, h1, h2, h3, h4⟩ := y
  exact ⟨T, .int (i : Nat), x, h1, h2, h3, rfl, h4 xs q⟩
section
variable {X : Cx} {tg l : Expr} {tl : TE}
/-- the walk of a list or of a tuple, whichever it is -/
def SeqGo (K : PySem.W.Frag) (H : Hp) (a : Addr) (xs : List V) (R : It → Hp → Prop) : Prop := (SqL K H a xs ∧ R (Itl K a) H) ∨ (SqT K H a xs ∧ R (Itt K a) H)
def EnumGo (K : PySem.W.Frag) (H : Hp) (a : Addr) (xs : List V) (R : It → Hp → Prop) : Prop := (SqL K H a xs ∧ R (Ite K a) H) ∨ (SqT K H a xs ∧ R (Iet K a) H)
/-- over a list or a tuple -/
def iAny (K : PySem.W.Frag) (tl : TE) : TI := fun σ H R => tl σ H fun x H1 => ∃ (a : Addr) (xs : List V), x = .ref a ∧ SeqGo K H1 a xs R
theorem pi_any (hl : PE X l tl) : PI X tg l (iAny X.K tl) := by
  refine ⟨fun pins s σ H R I h => thn (hl.run pins s σ H _ I h) fun v s1 ⟨x, H1, I1, r1, a, xs, ex, q⟩ => ?_⟩
  subst ex
  cases r1
  have free : ∀ b ∈ [s1.heap.objs.size], b = s1.heap.objs.size := fun b hb => List.mem_singleton.mp hb
  rcases q with ⟨hq, q⟩ | ⟨hq, q⟩
  · obtain ⟨its, rv, lp, hz⟩ := I1.list hq
    refine wpAny_pyIter_list lp.isList ⟨s1.heap.objs.size, [s1.heap.objs.size], _, _, H1, rfl, I1.kept (t' := s1.toks) fun b o e => Heap.get?_push_of_some _ e, turn_list a _, ⟨_, Heap.get?_push_size _ rfl, rfl, rfl⟩, fun b hb => ?_, q⟩
    rw [free b hb]
    exact I1.fpOk (Nat.le_refl _) (I1.hok.fresh (Nat.le_refl _))
  · obtain ⟨its, rv, tp, hz⟩ := I1.tuple hq
    refine wpAny_pyIter_tuple (show s1.heap.IsTuple a its.toArray from tp) ⟨s1.heap.objs.size, [s1.heap.objs.size], _, _, H1, rfl, I1.kept (t' := s1.toks) fun b o e => Heap.get?_push_of_some _ e, turn_tuple a _, ⟨_, Heap.get?_push_size _ rfl, rfl, rfl⟩, fun b hb => ?_, q⟩
    rw [free b hb]
    exact I1.fpOk (Nat.le_refl _) (I1.hok.fresh (Nat.le_refl _))
theorem any_of {K : PySem.W.Frag} {H0 H : Hp} {a : Addr} {xs : List V} {R : It → Hp → Prop} (h : SqL K H0 a xs ∨ SqT K H0 a xs) (s : Same H0 H)
    (go : ∀ (J : It) (G : Hp → Prop), (∀ H', Same H0 H' → G H') → Walk J xs.length G (YAt xs) → R J H) : SeqGo K H a xs R := by
  rcases h with h | h
  · exact .inl ⟨s.seq h, go _ _ (fun H' s => s.seq h) walk_list⟩
  · exact .inr ⟨SqT.ext h s, go _ _ (fun H' s => SqT.ext h s) walk_tup⟩
theorem enum_of {K : PySem.W.Frag} {H0 H : Hp} {a : Addr} {xs : List V} {R : It → Hp → Prop} (h : SqL K H0 a xs ∨ SqT K H0 a xs) (s : Same H0 H)
    (go : ∀ (J : It) (G : Hp → Prop), (∀ H', Same H0 H' → G H') → Walk J xs.length G (YPair (fun i => some (.int (i : Nat))) (fun i => xs[i]?)) → R J H) : EnumGo K H a xs R := by
  rcases h with h | h
  · exact .inl ⟨s.seq h, go _ _ (fun H' s => s.seq h) walk_enum⟩
  · exact .inr ⟨SqT.ext h s, go _ _ (fun H' s => SqT.ext h s) walk_et⟩
/-- enumerate of a list or a tuple -/
def iEnumA (K : PySem.W.Frag) (ta : TA) : TI := fun σ H R => ta σ H fun vs H1 => ∃ (a : Addr) (xs : List V), vs = [.ref a] ∧ EnumGo K H1 a xs R
theorem pi_enumA {e : Expr} {ta : TA} {p pos tpos : Pos} {elts : List Expr} {kk : Nat} (hg : Gl X "enumerate") (hm : X.mg "enumerate" = none) (ha : PA X [e] ta) (hs : starEach [e] X.env = [(false, eval e X.env)] := by rfl) :
    PI X (.Tuple elts kk tpos) (.Call (.Name "enumerate" p) [e] [] pos) (iEnumA X.K ta) := by
  refine ⟨fun pins s σ H R I h => ?_⟩
  refine Call_ (ld_blt I hg hm boot_enumerate (PyProof.Rows.callWith_type1 (thn (ha.run pos pins s σ H _ I h) fun us s1 ⟨vs, H1, I1, r1, a, xs, ex, q⟩ => ?_) hs rfl))
  subst ex
  cases r1 with
  | cons r rr =>
    cases rr
    cases r
    have old : ∀ b ∈ [s1.heap.objs.size + 1, s1.heap.objs.size], s1.heap.objs.size ≤ b := fun b hb => by
      rcases List.mem_cons.mp hb with z | z
      · rw [z]; exact Nat.le_add_right _ _
      · rw [List.mem_singleton.mp z]; exact Nat.le_refl _
    rcases q with ⟨hq, q⟩ | ⟨hq, q⟩
    · obtain ⟨its, rv, lp, hz⟩ := I1.list hq
      refine call_enumerate_list lp.isList fun h' he hit hsz hk => wpAny_pyIter_enum he ?_
      exact ⟨s1.heap.objs.size + 1, [s1.heap.objs.size + 1, s1.heap.objs.size], _, _, H1, rfl, I1.kept (t' := s1.toks) hk, turn_enum a (s1.heap.objs.size + 1) s1.heap.objs.size, ⟨⟨.none, he⟩, hit, Nat.succ_ne_self _⟩, fun b hb => I1.fpOk (old b hb) (I1.hok.fresh (old b hb)), q⟩
    · obtain ⟨its, rv, tp, hz⟩ := I1.tuple hq
      have al : a < s1.heap.objs.size := by
        obtain ⟨o, ho, _⟩ := tp
        exact Heap.lt_size ho
      refine call_enum_tuple tp fun h' he hit hk => wpAny_pyIter_enum he ?_
      exact ⟨s1.heap.objs.size + 1, [s1.heap.objs.size + 1, s1.heap.objs.size], _, _, H1, rfl, I1.kept (t' := s1.toks) hk, turn_et a (s1.heap.objs.size + 1) s1.heap.objs.size (Nat.ne_of_lt al) (Nat.ne_of_gt (Nat.lt_succ_of_lt al)), ⟨⟨.none, he⟩, hit, Nat.succ_ne_self _⟩, fun b hb => I1.fpOk (old b hb) (I1.hok.fresh (old b hb)), q⟩
end
end Fm

/-! ## FmEq -/
set_option Elab.async false
set_option maxRecDepth 100000
set_option maxHeartbeats 4000000
/-! == by a class's own __eq__, beside anything; != of two of its objects. -/
namespace Fm
open PySem L2 PySem.Spec PyProof.Rows
section
variable {X : Cx} {k : Nat} {f C : Addr} {fd : FuncData} {ps : List Str} {sp : Sp}
/-- a call of the class's __eq__ answers as it promises -/
theorem run_eq {pins : List (Addr × Obj)} {σ : L2.St} {H : Hp} {s : Shared} {A : Around} {x y : V} {a : Addr} {v : Value} {R : Bool → Hp → Prop} (F : FnOk X.prog X.w X.K X.mg X.base CX0 k f fd ps sp) (hb : Binds X.K fd ps []) (hr : Room k A) (hf : A.frames = X.A.frames)
    (I : Inv X pins σ H s) (ex : x = .ref a) (ry : RelV y v) (h : sp [x, y] H (fun z H' => ∃ b, z = .bl b ∧ R b H') E0) :
    wpAny (model X.prog X.w) A (call (.ref f) [.ref a, v]) (fun r s' => ∃ b H', r = .bool b ∧ Inv X pins σ H' s' ∧ R b H') X.xe s := by
  subst ex
  have e := I.env0
  have e0 : Env0 X.prog X.w X.K X.mg X.base A X.stack s H := ⟨by rw [hf]; exact e.frames, e.mod, e.bs, e.bsz, e.funs, e.frf, e.hok, e.bare⟩
  have r2 : Vals [V.ref a, y] [Value.ref a, v] := .cons rfl (.cons ry .nil)
  have hl := F.len _ _ _ _ h
  have bt := hb s [.ref a, v] I.kIn (by simpa using hl)
  refine wpAny_call (codeAny_mono (F.run A X.stack s H ⟨[.ref a, v], []⟩ [.ref a, v] [.ref a, y] _ E0 hr e0 (by simpa using bt) r2 h) fun r s' hq => ?_)
  cases r with
  | error er => exact absurd hq (by intro z; exact z)
  | ok fl =>
    cases fl with
    | next => exact False.elim hq
    | brk => exact False.elim hq
    | cont => exact False.elim hq
    | ret u =>
      obtain ⟨z, H', I', rz, b, ez, q⟩ := I.after hq
      subst ez
      cases rz
      exact ⟨b, H', rfl, I', q⟩
/-- x == y, x of the class at C -/
def rEqI (K : PySem.W.Frag) (C : Addr) (sp : Sp) : R2 := fun x y H Q => ∃ (a dx : Addr) (fs : List (Str × V)) (t : Value), x = .ref a ∧ H a = some (.ins C dx fs) ∧ TyX K H y t ∧ PySem.W.notFirst K C t = true ∧ sp [x, y] H (fun z H' => ∃ b, z = .bl b ∧ Q (.bl b) H') E0
theorem op_eqI' (F : FnOk X.prog X.w X.K X.mg X.base CX0 k f fd ps sp) (hs : PySem.W.findIn X.K (.ref C) "__eq__" = some (some (.ref f))) (hf : PySem.W.isFn X.K (.ref f) = true) (hb : Binds X.K fd ps []) (hr : Room k X.A) :
    OpR X (compareOp .Eq) (rEqI X.K C sp) := by
  intro pins s σ H x y v u Q I rx ry h
  obtain ⟨a, dx, fs, t, ex, ha, ty, hn, hsp⟩ := h
  have ex' := ex
  subst ex
  cases rx
  obtain ⟨mA, J, _⟩ := ins_get I.hok ha
  obtain ⟨od, J, _⟩ := J.look
  obtain ⟨m, hF⟩ := I.fr
  obtain ⟨Pz, Z, pz, _⟩ := kit_of I ry ty
  show wpAny (model X.prog X.w) X.A (richCompare .Eq (.ref a) u) (EP X pins σ Q) X.xe s
  refine PySem.W.cmp_K (op := .Eq) (tb := t) hr.units0 hF I.ok.mod.kin J (Z.ty _ _ I.kIn pz) hn hs hf ?_
  refine wpAny_mono (run_eq (R := fun b H' => Q (.bl b) H') F hb hr rfl I ex' ry hsp) (fun r s' z => ?_) fun _ _ z => z
  obtain ⟨b, H', er, I', q⟩ := z
  subst er
  exact ⟨.bl b, H', I', rfl, q⟩
theorem if_builtin {M : Model} {A : Around} {E : Value → Shared → Prop} {s : Shared} {K : PySem.W.Frag} {x : Addr} {ox : Obj} {od : Option Obj} {name : Str} {T id : String} {args : List Value} {Q : Option Value → Shared → Prop}
    (X : K.In s.heap) (I : PySem.W.InstAt s.heap x ox C od) (hs : PySem.W.findIn K (.ref C) name = some (some (.builtin id))) (sl : Slot T name id) (h : wpAny M A (call (.builtin id) (.ref x :: args)) (fun v => Q (some v)) E s) :
    wpAny M A (callSpecialIfBound? (.ref x) name args) Q E s := by
  simp only [callSpecialIfBound?, bindSpecialIfBound?]
  refine wpAny_holding (wpAny_bind (wpAny_bind (wpAny_bind (I.type.here ((PySem.W.looks_findIn X hs).here ?_)))))
  refine wpAny_bind (wpAny_askSetting (wpAny_ite ?_))
  have fin : wpAny M A (call (.builtin id) ([.ref x] ++ args) >>= fun v => pure (some v)) Q E s := wpAny_bind (wpAny_mono h (fun v s' z => wpAny_pure z) fun _ _ z => z)
  rw [sl.bind (.ref x)]
  split
  · exact wpAny_bind (wpAny_pure (wpAny_pure (by exact fin)))
  · exact wpAny_tryCatch (wpAny_bind (wpAny_pure (wpAny_pure (by exact fin))))
/-- x != y, both of the class at C, which has no __ne__ of its own -/
def rNeI (C : Addr) (sp : Sp) : R2 := fun x y H Q => ∃ (a b dx dy : Addr) (fs gs : List (Str × V)), x = .ref a ∧ y = .ref b ∧ H a = some (.ins C dx fs) ∧ H b = some (.ins C dy gs) ∧ sp [x, y] H (fun z H' => ∃ c, z = .bl c ∧ Q (.bl (!c)) H') E0
theorem op_neI' (F : FnOk X.prog X.w X.K X.mg X.base CX0 k f fd ps sp) (hs : PySem.W.findIn X.K (.ref C) "__eq__" = some (some (.ref f))) (hf : PySem.W.isFn X.K (.ref f) = true) (hb : Binds X.K fd ps []) (hr : Room (k + 1) X.A)
    (hn : PySem.W.findIn X.K (.ref C) "__ne__" = some (some (.builtin "object.__ne__"))) (hm : PySem.W.mroIn X.K C (.type "object") = some true) :
    OpR X (compareOp .NotEq) (rNeI C sp) := by
  intro pins s σ H x y v u Q I rx ry h
  obtain ⟨a, b, dx, dy, fs, gs, ex, ey, ha, hb', hsp⟩ := h
  have ex' := ex
  have ey' := ey
  subst ex ey
  cases rx
  cases ry
  obtain ⟨mA, J, _⟩ := ins_get I.hok ha
  obtain ⟨od, J, _⟩ := J.look
  obtain ⟨mB, J2, _⟩ := ins_get I.hok hb'
  obtain ⟨od2, J2, _⟩ := J2.look
  have hr1 : Room k X.A.in1 := hr.in1
  have run := run_eq (A := X.A.in1) (R := fun c H' => Q (.bl (!c)) H') F hb hr1 rfl I ex' (y := .ref b) (v := .ref b) rfl hsp
  have units : X.A.in1.units < cLine := hr1.units0
  have body : wpAny (model X.prog X.w) X.A.in1 (Builtin.«object.__ne__» ⟨[.ref a, .ref b], []⟩) (fun fin s' => ∃ r, fin = .done (.ret r) ∧ EP X pins σ Q r s' ∧ r ≠ .notImplemented) X.xe s := by
    unfold Builtin.«object.__ne__»
    refine wpAny_bind (wpAny_of_eq (a := ((Value.ref a : Value), [Value.ref b])) (by first | rfl | (simp only [Builtin.slotArgs]; rfl)) ?_)
    refine wpAny_bind (wpAny_cRoomFor units ?_)
    refine wpAny_bind (PySem.W.ifBound_K I.kIn J hs hf (wpAny_mono run (fun r s' z => ?_) fun _ _ z => z))
    obtain ⟨c, H', er, I', q⟩ := z
    subst er
    refine wpAny_bind (wpAny_truthy_bool ?_)
    exact wpAny_pure ⟨_, rfl, ⟨.bl (!c), H', I', rfl, q⟩, fun z => nomatch z⟩
  have isub : PySem.W.Looks (model X.prog X.w) s.heap (isInstance (.ref a) (.type "object")) true := J.type.andThen (PySem.W.looks_mroIn I.kIn hm)
  have SF := PySem.F.cmp_object
  show wpAny (model X.prog X.w) X.A (richCompare .NotEq (.ref a) (.ref b)) (EP X pins σ Q) X.xe s
  unfold richCompare
  simp only [oneThing_ref]
  refine wpAny_holding (wpAny_bind (wpAny_cRoomFor hr.units0 ?_))
  rw [cmpInfo_NotEq]
  dsimp only
  refine wpAny_bind (J.type.here (wpAny_bind (J2.type.here ?_)))
  rw [show (Value.ref C != Value.ref C) = false from by simp]
  simp only [Bool.false_eq_true, if_false]
  refine wpAny_bind (wpAny_pure ?_)
  simp only [Bool.false_eq_true, if_false]
  unfold tryCompare
  refine wpAny_bind (wpAny_bind (if_builtin I.kIn J hn SF.ne (wpAny_call (codeAny_call_builtin SF.ne.plain PySem.F.cmpEntry_ne ?_))))
  refine PySem.W.check_slot PySem.F.cmpKind_ne PySem.F.cmpSplit_ne isub (PySem.F.cmpArgs_ne _ _) ?_
  refine wpAny_mono body (fun fin s' z => ?_) fun _ _ z => z
  obtain ⟨r, er, q, hr'⟩ := z
  subst er
  cases r
  case notImplemented => exact absurd rfl hr'
  all_goals exact wpAny_pure (wpAny_pure q)
/-- the class at C compares by a def of its own -/
structure Deq (P : Program) (w : World) (K : PySem.W.Frag) (mg : Str → Option Value) (base : Heap) (C : Addr) (k : Nat) (ps : List Str) (sp : Sp) : Prop where
  ex : ∃ (f : Addr) (fd : FuncData), FnOk P w K mg base CX0 k f fd ps sp ∧ PySem.W.findIn K (.ref C) "__eq__" = some (some (.ref f)) ∧ PySem.W.isFn K (.ref f) = true ∧ Binds K fd ps []
theorem op_eqO (D : Deq X.prog X.w X.K X.mg X.base C k ps sp) (hr : Room k X.A) : OpR X (compareOp .Eq) (rEqI X.K C sp) := by
  obtain ⟨f, fd, F, hs, hf, hb⟩ := D.ex
  exact op_eqI' F hs hf hb hr
theorem op_neO (D : Deq X.prog X.w X.K X.mg X.base C k ps sp) (hr : Room (k + 1) X.A) (hn : PySem.W.findIn X.K (.ref C) "__ne__" = some (some (.builtin "object.__ne__"))) (hm : PySem.W.mroIn X.K C (.type "object") = some true) :
    OpR X (compareOp .NotEq) (rNeI C sp) := by
  obtain ⟨f, fd, F, hs, hf, hb⟩ := D.ex
  exact op_neI' F hs hf hb hr hn hm
end
end Fm

/-! ## FmData -/
set_option Elab.async false
set_option maxRecDepth 100000
set_option maxHeartbeats 4000000
/-! Data as trees over heaps; names; what as_tuples makes of data. -/
namespace Fm
open PySem L2
section
variable {K : PySem.W.Frag} {H H' H1 H2 N M : Hp}
theorem same_sqT {a : Addr} {xs : List V} (e : Same H H') (h : SqT K H a xs) : SqT K H' a xs := by
  rcases h with (h | ⟨o, h⟩) | h
  · exact .inl (.inl (e _ _ h))
  · exact .inl (.inr ⟨o, e _ _ h⟩)
  · exact .inr h
mutual
theorem dp_mono (e : Same H H') : ∀ (d : PyData) (v : V), Dp K H v d → Dp K H' v d
  | .none, _, h => by cases h; exact .non
  | .bool b, _, h => by cases h; exact .bl b
  | .int i, _, h => by cases h; exact .int i
  | .str x, _, h => by cases h; exact .str x
  | .list ds, _, h => by
    cases h with
    | lst hs ha => exact .lst (e.seq hs) (dpA_mono e ds _ ha)
  | .tuple ds, _, h => by
    cases h with
    | tup hs ha => exact .tup (same_sqT e hs) (dpA_mono e ds _ ha)
  | .dict _, _, h => by cases h
theorem dpA_mono (e : Same H H') : ∀ (ds : List PyData) (vs : List V), DpAll K H vs ds → DpAll K H' vs ds
  | [], _, h => by cases h; exact .nil
  | d :: ds, _, h => by
    cases h with
    | cons h1 h2 => exact .cons (dp_mono e d _ h1) (dpA_mono e ds _ h2)
end
theorem dpA_len : ∀ {ds : List PyData} {vs : List V}, DpAll K H vs ds → vs.length = ds.length
  | [], _, h => by cases h; rfl
  | d :: ds, _, h => by
    cases h with
    | cons h1 h2 => rw [List.length_cons, List.length_cons, dpA_len h2]
theorem dpA_at : ∀ {ds : List PyData} {vs : List V} {i : Nat} {v : V}, DpAll K H vs ds → vs[i]? = some v → ∃ d, ds[i]? = some d ∧ Dp K H v d
  | [], _, i, v, h, e => by cases h; simp at e
  | d :: ds, _, 0, v, h, e => by
    cases h with
    | cons h1 h2 =>
      simp at e
      subst e
      exact ⟨d, rfl, h1⟩
  | d :: ds, _, i + 1, v, h, e => by
    cases h with
    | cons h1 h2 =>
      simp at e
      obtain ⟨z, q1, q2⟩ := dpA_at h2 e
      exact ⟨z, by simpa using q1, q2⟩
theorem dpA_snoc : ∀ {ds : List PyData} {vs : List V} {d : PyData} {v : V}, DpAll K H vs ds → Dp K H v d → DpAll K H (vs ++ [v]) (ds ++ [d])
  | [], _, d, v, h, q => by cases h; exact .cons q .nil
  | c :: ds, _, d, v, h, q => by
    cases h with
    | cons h1 h2 => exact .cons h1 (dpA_snoc h2 q)
theorem dpA_strs : ∀ (xs : List Str), DpAll K H (xs.map V.str) (xs.map PyData.str)
  | [] => .nil
  | x :: xs => .cons (.str x) (dpA_strs xs)
theorem dpA_strs_inv : ∀ {xs : List Str} {vs : List V}, DpAll K H vs (xs.map PyData.str) → vs = xs.map V.str
  | [], _, h => by cases h; rfl
  | x :: xs, _, h => by
    cases h with
    | cons h1 h2 =>
      cases h1
      rw [dpA_strs_inv h2]
      rfl
/-! ### what is new -/
/-- N holds things that are new behind H, as they stand in H' -/
def Fresh (H H' N : Hp) : Prop := ∀ a o, N a = some o → H a = none ∧ H' a = some o
def uni (N M : Hp) : Hp := fun a => match N a with
  | some o => some o
  | none => M a
def nil0 : Hp := fun _ => none
theorem fresh_nil : Fresh H H' nil0 := fun _ _ h => by cases h
theorem same_uni : Same N (uni N M) := fun a o h => by
  unfold uni
  rw [h]
theorem uni_or {a : Addr} {o : HO} (h : uni N M a = some o) : N a = some o ∨ (N a = none ∧ M a = some o) := by
  unfold uni at h
  cases q : N a with
  | some u =>
    rw [q] at h
    exact .inl h
  | none =>
    rw [q] at h
    exact .inr ⟨rfl, h⟩
theorem fresh_uni (f : Fresh H H1 N) (g : Fresh H1 H2 M) (s : Same H H1) (t : Same H1 H2) : Fresh H H2 (uni N M) := fun a o h => by
  rcases uni_or h with h | ⟨_, h⟩
  · exact ⟨(f a o h).1, t _ _ (f a o h).2⟩
  · exact ⟨s.free (g a o h).1, (g a o h).2⟩
theorem same_uni2 (f : Fresh H H1 N) (g : Fresh H1 H2 M) : Same M (uni N M) := fun a o h => by
  unfold uni
  cases q : N a with
  | none => exact h
  | some u =>
    have z := (f a u q).2
    rw [(g a o h).1] at z
    cases z
theorem fresh_back (s : Same H H1) (f : Fresh H1 H2 N) : Fresh H H2 N := fun a o h => ⟨s.free (f a o h).1, (f a o h).2⟩
theorem fresh_new (f : Fresh H H1 N) (s : Same H H1) {p : Addr} (o : HO) (hp : H1 p = none) : Fresh H (upd H1 p o) (upd N p o) := fun a u h => by
  by_cases e : a = p
  · subst e
    rw [upd_same] at h ⊢
    exact ⟨s.free hp, h⟩
  · rw [upd_ne e] at h ⊢
    exact f a u h
theorem same_freshNew (f : Fresh H H1 N) {p : Addr} (o : HO) (hp : H1 p = none) : Same N (upd N p o) := fun a u h => by
  have e : a ≠ p := fun z => by
    have q := (f a u h).2
    rw [z, hp] at q
    cases q
  rw [upd_ne e]
  exact h
/-- what is spoken of, and what is new, as one part of the heap -/
theorem grow_fresh {F : Hp} (s : Same F H) (t : Same H H') (f : Fresh H H' N) : Grow F H (uni F N) H' := by
  refine ⟨same_uni, fun a o h => ?_, fun a o h1 h2 => ⟨?_, t _ _ h2⟩⟩
  · rcases uni_or h with h | ⟨_, h⟩
    · exact t _ _ (s _ _ h)
    · exact (f a o h).2
  · unfold uni
    rw [h1]
    cases q : N a with
    | none => rfl
    | some u =>
      have z := (f a u q).1
      rw [h2] at z
      cases z
theorem same_grow {F : Hp} (s : Same F H) (f : Fresh H H' N) : Same N (uni F N) := fun a o h => by
  unfold uni
  cases q : F a with
  | none => exact h
  | some u =>
    have z := s a u q
    rw [(f a o h).1] at z
    cases z
theorem bag_same {F : Hp} {b : Addr} (B : Bag F H b) (t : Same H H') : Bag F H' b := by
  obtain ⟨s, fb, cl, ns, p, g, z, c, h, e1, e2, e3, e4, r⟩ := B
  exact ⟨s.trans t, fb, cl, ns, p, g, z, c, h, e1, e2, t _ _ e3, t _ _ e4, r⟩
end
/-! ### rows as tuples -/
mutual
def tupd : PyData → PyData
  | .list xs => .tuple (tupdL xs)
  | .tuple xs => .tuple (tupdL xs)
  | .none => .none
  | .bool b => .bool b
  | .int i => .int i
  | .str s => .str s
  | .dict kvs => .dict kvs
def tupdL : List PyData → List PyData
  | [] => []
  | d :: ds => tupd d :: tupdL ds
end
theorem tupdL_map : ∀ ds : List PyData, tupdL ds = ds.map tupd
  | [] => rfl
  | d :: ds => by
    show tupd d :: tupdL ds = tupd d :: ds.map tupd
    rw [tupdL_map ds]
/-- data of at most so many rows one in the other, none of them long -/
inductive Dn : Nat → PyData → Prop
  | none (n : Nat) : Dn (n + 1) .none
  | bool (n : Nat) (b : Bool) : Dn (n + 1) (.bool b)
  | int (n : Nat) (i : Int) : Dn (n + 1) (.int i)
  | str (n : Nat) (s : Str) : Dn (n + 1) (.str s)
  | list (n : Nat) (ds : List PyData) : (∀ d ∈ ds, Dn n d) → ds.length ≤ 100000 → Dn (n + 1) (.list ds)
  | tuple (n : Nat) (ds : List PyData) : (∀ d ∈ ds, Dn n d) → ds.length ≤ 100000 → Dn (n + 1) (.tuple ds)
theorem dn_strs {n : Nat} {xs : List Str} (h : xs.length ≤ 100000) : (∀ d ∈ xs.map PyData.str, Dn (n + 1) d) ∧ (xs.map PyData.str).length ≤ 100000 := by
  refine ⟨fun d m => ?_, by rw [List.length_map]; exact h⟩
  obtain ⟨x, _, rfl⟩ := List.mem_map.mp m
  exact .str n x
theorem bl_map {α : Type} (f : α → Bool) (xs : List α) : (xs.map fun c => V.bl (f c)) = (xs.map f).map V.bl := by
  rw [List.map_map]
  rfl
theorem flat_strs (xs : List Str) : (xs.map V.str).all flatV = true := by
  rw [List.all_map]
  exact List.all_eq_true.mpr fun _ _ => rfl
theorem inV_str (n : Str) (xs : List Str) : inV (.str n) (xs.map V.str) = decide (n ∈ xs) := by
  unfold inV
  rw [List.any_map]
  by_cases h : n ∈ xs
  · rw [decide_eq_true h]
    exact List.any_eq_true.mpr ⟨n, h, beq_self_eq_true n⟩
  · rw [decide_eq_false h]
    refine List.any_eq_false.mpr fun y m => ?_
    show ¬ (y == n) = true
    intro e
    rw [eq_of_beq e] at m
    exact h m
theorem nodup_take {α : Type} {l : List α} (hN : l.Nodup) {i : Nat} {x : α} (h : l[i]? = some x) : x ∉ l.take i := fun m => by
  obtain ⟨j, hj, e⟩ := List.getElem_of_mem m
  have q : l[j]? = some x := by
    rw [List.length_take] at hj
    rw [List.getElem_take] at e
    rw [← e]
    exact List.getElem?_eq_getElem _
  have z := nd_ix hN q h
  rw [List.length_take] at hj
  omega
/-! ### rules whose K is told, for the inside of a comprehension -/
section
variable {X : Cx} {K : PySem.W.Frag}
theorem ixK_seq (h : X.K = K := by rfl) : IxR X (rIx K) := by subst h; exact ix_seq
theorem ixK_list (h : X.K = K := by rfl) : IxR X (rIxL K) := by subst h; exact ix_list
theorem ixK_tup (h : X.K = K := by rfl) : IxR X (rIxT K) := by subst h; exact ix_tup
theorem cK_len_seq (h : X.K = K := by rfl) : CallR X (.builtin "len") (fun xs H Q => ∃ p ys, xs = [.ref p] ∧ (SqL K H p ys ∨ SqT K H p ys) ∧ Q (.int ys.length) H) := by subst h; exact call_len_seq
theorem cK_isi (h : X.K = K := by rfl) : CallR X (.builtin "isinstance") (rIsi K) := by subst h; exact call_isi
theorem cK_isiT (h : X.K = K := by rfl) : CallR X (.builtin "isinstance") (rIsiT K) := by subst h; exact call_isiT
theorem cK_list_of (h : X.K = K := by rfl) : CallR X (.type "list") (fun xs H Q => ∃ p ys, xs = [.ref p] ∧ (SqL K H p ys ∨ SqT K H p ys) ∧ ∀ l, H l = none → Q (.ref l) (upd H l (.lst ys))) := by subst h; exact call_list_of
theorem cK_tuple_of (h : X.K = K := by rfl) : CallR X (.type "tuple") (fun xs H Q => ∃ p ys, xs = [.ref p] ∧ ((SqL K H p ys ∧ ∀ l, H l = none → Q (.ref l) (upd H l (.tup ys))) ∨ (SqT K H p ys ∧ Q (.ref p) H))) := by subst h; exact call_tuple_of
end
/-! ### names -/
def isNm (s : Str) : Bool := decide (1 ≤ s.length) && decide (s.length ≤ 8) && s.cps.toList.all fun c => decide (97 ≤ c) && decide (c ≤ 122)
def letters : Str := "abcdefghijklmnopqrstuvwxyz"
theorem letters_list : letters.cps.toList = List.range' 97 26 := by decide +kernel
theorem letters_mem (c : Nat) : decide (c ∈ letters.cps.toList) = (decide (97 ≤ c) && decide (c ≤ 122)) := by
  rw [letters_list]
  by_cases h : c ∈ List.range' 97 26
  · rw [decide_eq_true h]
    have q := List.mem_range'_1.mp h
    simp
    omega
  · rw [decide_eq_false h]
    have q : ¬ (97 ≤ c ∧ c < 97 + 26) := fun z => h (List.mem_range'_1.mpr z)
    symm
    rw [← Bool.decide_and]
    exact decide_eq_false (by omega)
end Fm

/-! ## K01A -/
set_option Elab.async false
set_option maxRecDepth 100000
set_option maxHeartbeats 4000000
namespace Fm
open PySem L2
def topS (i : Nat) : Stmt := PySem.Challenge.pw_firstmet_k01_shapes_kept.main.body.getD i (.Pass ⟨0, 0, 0, 0⟩)
/-- what the top has left of names -/
structure Txt (K : PySem.W.Frag) (mg : Str → Option Value) (CS : Addr) : Prop where
  n_len : mg "len" = none
  n_list : mg "list" = none
  n_tuple : mg "tuple" = none
  n_isinstance : mg "isinstance" = none
  n_str : mg "str" = none
  n_dict : mg "dict" = none
  n_bool : mg "bool" = none
  n_int : mg "int" = none
  n_max : mg "max" = none
  n_all : mg "all" = none
  n_set : mg "set" = none
  n_range : mg "range" = none
  n_enumerate : mg "enumerate" = none
  g_LETTERS : ∃ t, mg "LETTERS" = some (.str "abcdefghijklmnopqrstuvwxyz" t)
  g_LONGEST_NAME : ∃ t, mg "LONGEST_NAME" = some (.int 8 t)
  g_MOST_TABLES : ∃ t, mg "MOST_TABLES" = some (.int 5 t)
  g_MOST_FIELDS : ∃ t, mg "MOST_FIELDS" = some (.int 4 t)
  g_Shape : mg "Shape" = some (.ref CS)
  cl : Cls K CS
  nT : NoAttr K CS "tables"
  c_cls : PySem.W.findIn K (.ref CS) "__class__" = some (some (.builtin "object.__class__"))
  c_get : PySem.W.specialIn K (.builtin "object.__class__") "__get__" = some (some (.builtin "getset_descriptor.__get__"))
  c_tak : PySem.W.takesIn K (.builtin "object.__class__") = some true
  c_mro : PySem.W.mroIn K CS (.type "object") = some true
  c_ne : PySem.W.findIn K (.ref CS) "__ne__" = some (some (.builtin "object.__ne__"))
  c_isi : ∀ n ∈ ["NoneType", "bool", "int", "str", "list", "tuple", "dict"], PySem.W.kitOne K (.type n) (.ref CS) = some false
  c_nf : ∀ n ∈ ["NoneType", "bool", "int", "str", "list", "tuple", "dict"], PySem.W.notFirst K CS (.type n) = true
section
variable {P : Program} {w : World} {K : PySem.W.Frag} {mg : Str → Option Value} {base : Heap} {CS : Addr}
abbrev s_l_pick : Stmt := topS 20
abbrev sc_l_pickN : List Str := ["_law_bag_here", "_law_many", "_law_cell", "_law_found", "_law_one"]
abbrev ps_l_pick : List Str := ["_law_bag_here", "_law_many"]
theorem sc_l_pick : FnScope sc_l_pickN ps_l_pick (defScope s_l_pick) := ⟨rfl, rfl, rfl, by decide +kernel, rfl, by decide +kernel, by decide +kernel⟩
theorem ok_l_pick {f : Addr} {fd : FuncData} (F : Fun K "_law_pick" "_law_pick" s_l_pick f fd) (T : Txt K mg CS) : FnOk P w K mg base CX0 1 f fd ps_l_pick spPick := by
  refine F.ok sc_l_pick (fun vs H Q E h => ?_) (fun cdv A outer s H vs Q E hr h => ?_)
  · obtain ⟨_, _, _, rfl, _⟩ := h
    rfl
  · obtain ⟨F0, b, m, rfl, m0, m1, ⟨hs, hfb, cl, ns, p, g, z, c, hh, hcl0, hcb, hcl, hb, p0, g0, z0, z1⟩, k⟩ := h
    have fin : ∀ (r p' g' z' c' h' : Int) (H' : Hp), 0 ≤ r → r < m → 0 ≤ p' → 0 ≤ g' → 0 ≤ z' → z' < 2147483647 → (∀ a, a ≠ b → H' a = H a) → H' b = some (.lst [.ref cl, .int p', .int g', .int z', .int c', .int h']) → Q (.int r) H' :=
      fun r p' g' z' c' h' H' r0 r1 q0 q1 q2 q3 ho hb' => k r H' r0 r1 ⟨fun a o e => by
        have n : a ≠ b := fun q => by rw [q, hfb] at e; cases e
        rw [ho a n]; exact hs a o e, hfb, cl, ns, p', g', z', c', h', hcl0, hcb, by rw [ho cl hcb]; exact hcl, hb', q0, q1, q2, q3⟩
    refine ⟨_, (pss_cons (ps_asg (pe_op op_add (pe_ix ix_list (pv 0) pe_int (fun _ _ => rfl)) pe_int) (pg_sub (pv 0) pe_int set_list))
  (Evl.pss_cut (ps_if (PW.pt (pw_and (pt_cmpR op_eq (pe_ix ix_list (pv 0) pe_int (fun _ _ => rfl)) pe_int (nomark _)) (pw_and (pt_cmpR op_eq (pe_ix ix_list (pv 0) pe_int (fun _ _ => rfl)) pe_int (nomark _)) (pw_and1 (pt_cmpR op_lt (pe_ix ix_list (pv 0) pe_int (fun _ _ => rfl)) (pe_callB call_len_seq (by rfl) T.n_len (by decide +kernel) (pa_cons (pe_ix ix_list (pv 0) pe_int (fun _ _ => rfl)) pa_nil)) (nomark _))))))
    (pss_cons (ps_set (i := 2) sc_l_pick.nd rfl (Or.inl rfl) (pe_ix ix_list (pe_ix ix_list (pv 0) pe_int (fun _ _ => rfl)) (pe_ix ix_list (pv 0) pe_int (fun _ _ => rfl)) (fun _ _ => rfl)))
    (pss_cons (ps_asg (pe_op op_add (pe_ix ix_list (pv 0) pe_int (fun _ _ => rfl)) pe_int) (pg_sub (pv 0) pe_int set_list))
    (pss_one (ps_if (pt_cmpR op_ge (pv 2) (pe_op op_pow pe_int pe_int) (nomark _))
      (pss_one (ps_asg (pv 2) (pg_sub (pv 0) pe_int set_list)))
      (pss_cons (ps_asg (pe_op op_modN (pe_callTy call_int1 (by rfl) T.n_int (by decide +kernel) (pa_cons (pe_op op_add (pe_op op_add (pe_op op_mul (pe_ix ix_list (pv 0) pe_int (fun _ _ => rfl)) pe_int) (pv 2)) pe_int) pa_nil)) pe_int) (pg_sub (pv 0) pe_int set_list))
      (pss_one (ps_asg pe_int (pg_sub (pv 0) pe_int set_list))))))))
    pss_nil)
  (pss_cons (ps_if (pt_cmpR op_gt (pe_ix ix_list (pv 0) pe_int (fun _ _ => rfl)) pe_int (nomark _))
    (pss_cons (ps_set (i := 3) sc_l_pick.nd rfl (Or.inl rfl) (pe_op op_modN (pe_callTy call_int1 (by rfl) T.n_int (by decide +kernel) (pa_cons (pe_ix ix_list (pv 0) pe_int (fun _ _ => rfl)) pa_nil)) (pv 1)))
    (pss_cons (ps_asg (pe_op op_fdivN (pe_ix ix_list (pv 0) pe_int (fun _ _ => rfl)) (pv 1)) (pg_sub (pv 0) pe_int set_list))
    (pss_one (ps_ret (pv 3)))))
    pss_nil)
  (pss_cons (ps_asg (pe_callB (call_max2 (by rfl)) (by rfl) T.n_max (by decide +kernel) (pa_cons pe_int (pa_cons (pe_op op_sub (pe_ix ix_list (pv 0) pe_int (fun _ _ => rfl)) pe_int) pa_nil))) (pg_sub (pv 0) pe_int set_list))
  (pss_cons (ps_set (i := 4) sc_l_pick.nd rfl (Or.inl rfl) (pe_op op_modN (pe_callTy call_int1 (by rfl) T.n_int (by decide +kernel) (pa_cons (pe_op op_mul (pe_op op_add (pe_op op_add (pe_ix ix_list (pv 0) pe_int (fun _ _ => rfl)) (pe_op op_mul pe_int (pe_ix ix_list (pv 0) pe_int (fun _ _ => rfl)))) pe_int) pe_int) pa_nil)) pe_int))
  (pss_cons (ps_set (i := 4) sc_l_pick.nd rfl (Or.inl rfl) (pe_op op_modN (pe_callTy call_int1 (by rfl) T.n_int (by decide +kernel) (pa_cons (pe_op op_mul (pv 4) (pe_op op_add (pe_op op_fdivN (pv 4) pe_int) pe_int)) pa_nil)) pe_int))
  (pss_cons (ps_set (i := 4) sc_l_pick.nd rfl (Or.inl rfl) (pe_op op_modN (pe_callTy call_int1 (by rfl) T.n_int (by decide +kernel) (pa_cons (pe_op op_mul (pv 4) (pe_op op_add (pe_op op_fdivN (pv 4) pe_int) pe_int)) pa_nil)) pe_int))
  (pss_one (ps_ret (pe_op op_modN (pe_callTy call_int1 (by rfl) T.n_int (by decide +kernel) (pa_cons (pe_op op_fdivN (pv 4) pe_int) pa_nil)) (pv 1))))))))))), ?_⟩
    have nzM : (2147483647 : Int) ≠ 0 := by decide
    have nzM2 : (2147483399 : Int) ≠ 0 := by decide
    -- one more asked
    refine ⟨_, rfl, b, _, _, _, rfl, rfl, .inl (.inl hb), rfl, _, _, rfl, rfl, _, rfl, b, _, _, _, rfl, rfl, hb, rfl, ?_⟩
    -- a new cell
    refine ⟨fun σ' H' => ∃ (p' g' z' h' : Int) (v : Option V), σ' = [some (.ref b), some (.int m), v, none, none] ∧ 0 ≤ p' ∧ 0 ≤ g' ∧ 0 ≤ z' ∧ z' < 2147483647 ∧ (∀ a, a ≠ b → H' a = H a) ∧
      H' b = some (.lst [.ref cl, .int p', .int g', .int z', .int (c + 1), .int h']), ?_, ?_⟩
    · have stay : ∀ a, a ≠ b → (upd H b (.lst [.ref cl, .int p, .int g, .int z, .int (c + 1), .int hh])) a = H a := fun a n => upd_ne n
      refine ⟨_, rfl, b, _, _, _, rfl, rfl, .inl (.inl upd_same), rfl, rfl, _, rfl, ifd (fun _ => ?_) fun _ => iteF ⟨p, g, z, hh, _, rfl, p0, g0, z0, z1, stay, upd_same⟩⟩
      refine ⟨_, rfl, b, _, _, _, rfl, rfl, .inl (.inl upd_same), rfl, rfl, _, rfl, ifd (fun _ => ?_) fun _ => iteF ⟨p, g, z, hh, _, rfl, p0, g0, z0, z1, stay, upd_same⟩⟩
      refine ⟨_, rfl, b, _, _, _, rfl, rfl, .inl (.inl upd_same), rfl, _, rfl, b, _, _, _, rfl, rfl, .inl (.inl upd_same), rfl, cl, _, rfl, .inl (.inl (.inl (by rw [upd_ne hcb]; exact hcl))), _, _, rfl, rfl, _, rfl, ifd (fun hlt => ?_) fun _ => ⟨p, g, z, hh, _, rfl, p0, g0, z0, z1, stay, upd_same⟩⟩
      rw [List.length_map] at hlt
      obtain ⟨n, rfl⟩ : ∃ n : Nat, p = (n : Int) := ⟨p.toNat, by omega⟩
      obtain ⟨u, hu⟩ : ∃ u, ns[n]? = some u := ⟨_, List.getElem?_eq_getElem (by omega)⟩
      refine ⟨_, rfl, b, _, _, _, rfl, rfl, .inl (.inl upd_same), rfl, _, rfl, b, _, _, _, rfl, rfl, .inl (.inl upd_same), rfl, cl, _, _, _, rfl, rfl, .inl (.inl (by rw [upd_ne hcb]; exact hcl)), atI_nat (by rw [List.getElem?_map, hu]; rfl), ?_⟩
      refine ⟨_, rfl, b, _, _, _, rfl, rfl, .inl (.inl upd_same), rfl, _, _, rfl, rfl, _, rfl, b, _, _, _, rfl, rfl, upd_same, rfl, ?_⟩
      refine ⟨_, rfl, _, _, rfl, rfl, ⟨by decide, by decide, by decide⟩, _, _, rfl, rfl, _, rfl, ifd (fun hge => ?_) fun _ => ?_⟩
      · refine ⟨_, rfl, _, rfl, b, _, _, _, rfl, rfl, upd_same, rfl, ?_⟩
        have hge' : (10 : Int) ^ 18 ≤ u := hge
        exact ⟨(n : Int) + 1, u, z, hh, _, rfl, by omega, by omega, z0, z1, fun a n => by rw [upd_ne n, upd_ne n, upd_ne n], upd_same⟩
      · refine ⟨_, rfl, b, _, _, _, rfl, rfl, .inl (.inl upd_same), rfl, _, _, rfl, rfl, .inl ⟨by omega, by omega⟩, _, rfl, _, _, rfl, rfl, _, _, rfl, rfl, .inl ⟨_, rfl, _, _, rfl, rfl, nzM, _, rfl, b, _, _, _, rfl, rfl, upd_same, rfl, ?_⟩⟩
        refine ⟨_, rfl, b, _, _, _, rfl, rfl, upd_same, rfl, ?_⟩
        exact ⟨(n : Int) + 1, g, _, 6, _, rfl, by omega, g0, fmod_lo (by decide), fmod_hi (by decide), fun a n => by rw [upd_ne n, upd_ne n, upd_ne n, upd_ne n], upd_same⟩
    · rintro σ' H' ⟨p', g', z', h', v, rfl, p0', g0', z0', z1', ho, hb'⟩
      refine ⟨_, rfl, b, _, _, _, rfl, rfl, .inl (.inl hb'), rfl, _, _, rfl, rfl, _, rfl, ifd (fun hg => ?_) fun _ => ?_⟩
      · refine ⟨_, rfl, b, _, _, _, rfl, rfl, .inl (.inl hb'), rfl, .inl ⟨_, rfl, _, rfl, _, _, rfl, rfl, Int.ne_of_gt m0, ?_⟩⟩
        refine ⟨_, rfl, b, _, _, _, rfl, rfl, .inl (.inl hb'), rfl, _, rfl, _, _, rfl, rfl, ⟨Int.ne_of_gt m0, by omega⟩, _, rfl, b, _, _, _, rfl, rfl, hb', rfl, ?_⟩
        refine ⟨_, rfl, ?_⟩
        exact fin _ p' _ z' _ h' _ (fmod_lo m0) (fmod_hi m0) p0' (fdiv_lo g0' m0) z0' z1' (fun a n => by rw [upd_ne n]; exact ho a n) upd_same
      · refine ⟨_, rfl, b, _, _, _, rfl, rfl, .inl (.inl hb'), rfl, _, _, rfl, rfl, _, _, rfl, _, rfl, b, _, _, _, rfl, rfl, hb', rfl, ?_⟩
        refine ⟨_, rfl, b, _, _, _, rfl, rfl, .inl (.inl upd_same), rfl, _, rfl, b, _, _, _, rfl, rfl, .inl (.inl upd_same), rfl, _, _, rfl, rfl, .inl ⟨by decide, by decide⟩, _, _, rfl, rfl, _, _, rfl, rfl, _, _, rfl, rfl, .inr ⟨by decide, by decide⟩, .inl ⟨_, rfl, _, _, rfl, rfl, nzM, ?_⟩⟩
        refine ⟨_, rfl, _, rfl, _, _, rfl, rfl, ⟨by decide, by decide⟩, _, _, rfl, rfl, _, _, rfl, rfl, .inl (fmod64 _ (by decide) (by decide)), .inl ⟨_, rfl, _, _, rfl, rfl, nzM, ?_⟩⟩
        refine ⟨_, rfl, _, rfl, _, _, rfl, rfl, ⟨by decide, by decide⟩, _, _, rfl, rfl, _, _, rfl, rfl, .inl (fmod64 _ (by decide) (by decide)), .inl ⟨_, rfl, _, _, rfl, rfl, nzM2, ?_⟩⟩
        refine ⟨_, rfl, _, _, rfl, rfl, ⟨by decide, by decide⟩, .inl ⟨_, rfl, _, rfl, _, _, rfl, rfl, Int.ne_of_gt m0, ?_⟩⟩
        exact fin _ p' g' z' _ _ _ (fmod_lo m0) (fmod_hi m0) p0' g0' z0' z1' (fun a n => by rw [upd_ne n]; exact ho a n) upd_same
end
end Fm

/-! ## K01B -/
set_option Elab.async false
set_option maxRecDepth 100000
set_option maxHeartbeats 4000000
namespace Fm
open PySem L2
/-- a list or a tuple that stands at a -/
def Sq (K : PySem.W.Frag) (H : Hp) (a : Addr) (xs : List V) : Prop := SqL K H a xs ∨ SqT K H a xs
theorem Sq.same {K : PySem.W.Frag} {H H' : Hp} {a : Addr} {xs : List V} (h : Sq K H a xs) (e : Same H H') : Sq K H' a xs := h.elim (fun h => .inl (e.seq h)) fun h => .inr (same_sqT e h)
theorem seq_ty {K : PySem.W.Frag} {H : Hp} {a : Addr} {xs : List V} (h : Sq K H a xs) : ∃ n, TyX K H (.ref a) (.type n) ∧ PySem.W.kitAny K (.type n) [.type "list", .type "tuple"] = some true ∧ PySem.W.kitOne K (.type n) (.type "str") = some false := by
  have yes : PySem.W.kitAny K (.type "list") [.type "list", .type "tuple"] = some true := kitAny_cons (b := true) (kit_ty (by decide +kernel)) (fun z => nomatch z) fun _ => rfl
  have no : PySem.W.kitAny K (.type "tuple") [.type "list", .type "tuple"] = some true := kitAny_cons (b := false) (kit_ty (by decide +kernel)) (fun _ => kitAny_cons (b := true) (kit_ty (by decide +kernel)) (fun z => nomatch z) fun _ => rfl) fun z => nomatch z
  have k1 : PySem.W.kitOne K (.type "list") (.type "str") = some false := kit_ty (by decide +kernel)
  have k2 : PySem.W.kitOne K (.type "tuple") (.type "str") = some false := kit_ty (by decide +kernel)
  rcases h with ((h | ⟨o, h⟩) | ⟨o, its, n, h, hc, _⟩) | ((h | ⟨o, h⟩) | ⟨o, its, n, h, hc, _⟩)
  · exact ⟨_, .base (.lst h), yes, k1⟩
  · exact ⟨_, .base (.frz h), yes, k1⟩
  · exact ⟨_, .kList h hc, yes, k1⟩
  · exact ⟨_, .base (.tup h), no, k2⟩
  · exact ⟨_, .fTuple h, no, k2⟩
  · exact ⟨_, .kTuple h hc, no, k2⟩
theorem tup_ty {K : PySem.W.Frag} {H : Hp} {a : Addr} {xs : List V} (h : SqT K H a xs) : ∃ n, TyX K H (.ref a) (.type n) ∧ PySem.W.kitOne K (.type n) (.type "tuple") = some true := by
  have k : PySem.W.kitOne K (.type "tuple") (.type "tuple") = some true := kit_ty (by decide +kernel)
  rcases h with (h | ⟨o, h⟩) | ⟨o, its, n, h, hc, _⟩
  · exact ⟨_, .base (.tup h), k⟩
  · exact ⟨_, .fTuple h, k⟩
  · exact ⟨_, .kTuple h hc, k⟩
theorem clsLT : Paired ClsV [V.ty "list", V.ty "tuple"] [Value.type "list", Value.type "tuple"] := .cons (.ty _) (.cons (.ty _) .nil)
section
variable {P : Program} {w : World} {K : PySem.W.Frag} {mg : Str → Option Value} {base : Heap} {CS : Addr}
def spIsName (K : PySem.W.Frag) : Sp := fun vs H Q _ => ∃ (v : V) (r : Bool), vs = [v] ∧ ((∃ s : Str, v = .str s ∧ s.length ≤ 100000 ∧ r = isNm s) ∨ ∃ n, TyX K H v (.type n) ∧ kitB n "str" = some false ∧ r = false) ∧ ∀ H', Same H H' → Q (.bl r) H'
abbrev s_is_name : Stmt := topS 3
abbrev sc_is_nameN : List Str := ["thing", "sign"]
abbrev ps_is_name : List Str := ["thing"]
theorem sc_is_name : FnScope sc_is_nameN ps_is_name (defScope s_is_name) := ⟨rfl, rfl, rfl, by decide +kernel, rfl, by decide +kernel, by decide +kernel⟩
theorem ok_is_name {f : Addr} {fd : FuncData} (F : Fun K "is_name" "is_name" s_is_name f fd) (T : Txt K mg CS) : FnOk P w K mg base CX0 1 f fd ps_is_name (spIsName K) := by
  refine F.ok sc_is_name (fun vs H Q E h => ?_) (fun cdv A outer s H vs Q E hr h => ?_)
  · obtain ⟨_, _, rfl, _⟩ := h
    rfl
  · obtain ⟨v, r, rfl, h, k⟩ := h
    refine ⟨_, (pss_cons (ps_if (PW.pt (pw_or (pt_not (pt_val (pe_callB call_isi (by rfl) T.n_isinstance (by decide +kernel) (pa_cons (pv 0) (pa_cons (pe_bltn (v := .ty "str") (by rfl) T.n_str (by decide +kernel) rfl) pa_nil))))) (pw_or1 (pt_not (pt_chain op_le op_le pe_int (pe_callB call_len_str (by rfl) T.n_len (by decide +kernel) (pa_cons (pv 0) pa_nil)) (pe_gI T.g_LONGEST_NAME))))))
    (pss_one (ps_ret pe_bl))
    pss_nil)
  (pss_one (ps_ret (pe_callB (cr_all (by rfl)) (by rfl) T.n_all (by decide +kernel) (pa_cons (pe_lc (own := [("sign", 1)]) (g := gName 1) (tt := tYes) (by rfl) sc_is_name.nd (pi_str (pv 0)) (blkOk_by (own := [("sign", 1)]) (N := sc_is_nameN) (sc := defScope s_is_name) (by decide +kernel)) (fun _ _ _ _ _ => pg_name (i := 1) sc_is_name.nd rfl (Or.inl rfl)) (fun _ _ _ _ _ => pts_nil) (fun _ _ _ _ _ => (pe_cmpR op_in_sign (pv 1) (pe_gS T.g_LETTERS) (by rfl)))) pa_nil))))), ?_⟩
    rcases h with ⟨z, rfl, hz, rfl⟩ | ⟨n, ty, hk, rfl⟩
    · have hz' : z.length ≤ sizeLine := Nat.le_trans hz (by decide)
      refine ⟨_, rfl, _, _, _, _, _, rfl, .ty _, .base (.str _), kit_ty (b := "str") (r := true) (by decide +kernel), _, rfl, iteF ?_⟩
      have len : z.cps.toList.length ≤ 100000 := by
        have q : z.cps.toList.length = z.length := by simp [Str.length]
        rw [q]
        exact hz
      have short : ∀ H', Same H H' → (1 ≤ z.length ∧ z.length ≤ 8 → False) → Q (.bl false) H' := fun H' e n => by
        have q := k H' e
        have r0 : isNm z = false := by
          unfold isNm
          rw [← Bool.decide_and, decide_eq_false n]
          rfl
        rw [r0] at q
        exact q
      refine ⟨_, rfl, _, rfl, hz', _, _, rfl, rfl, _, rfl, ifd (fun h1 => ?_) fun h1 => ?_⟩
      · refine ⟨_, _, rfl, rfl, _, rfl, ifn (fun h2 => ?_) fun h2 => ?_⟩
        · exact short _ (Same.refl _) fun q => h2 (by omega)
        · refine ⟨_, rfl, _, rfl, fun D hD => ?_⟩
          refine lc_it (walk_str (z := z)) (fun i H' => Same H H' ∧ H' D = some (.lst ((z.cps.toList.take i).map fun c => V.bl (decide (c ∈ letters.cps.toList)))))
            ⟨same_new _ hD, by rw [upd_same]; rfl⟩ (fun _ _ _ _ => trivial) ?_ ?_
          · rintro i x H1 H2 hi ⟨s1, d1⟩ ⟨rfl, c, hc, rfl⟩
            refine ⟨rfl, _, rfl, c, letters, rfl, rfl, _, d1, take_lt _ len, same_put s1 _ hD, ?_⟩
            rw [upd_same, map_take _ (by simpa using hc)]
          · rintro H1 ⟨s1, d1⟩
            have e1 : z.cps.toList.take z.cps.size = z.cps.toList := by
              rw [← Array.length_toList, List.take_length]
            rw [e1, bl_map] at d1
            refine ⟨D, _, rfl, .inl (.inl d1), ?_⟩
            have q := k _ s1
            have r1 : isNm z = (z.cps.toList.map fun c => decide (c ∈ letters.cps.toList)).all id := by
              unfold isNm
              rw [decide_eq_true (show 1 ≤ z.length by omega), decide_eq_true (show z.length ≤ 8 by omega), List.all_map]
              simp only [letters_mem]
              rfl
            rw [r1] at q
            exact q
      · refine ⟨_, rfl, iteT ?_⟩
        exact short _ (Same.refl _) fun q => h1 (by omega)
    · refine ⟨_, rfl, _, _, _, _, _, rfl, .ty _, ty, kit_ty hk, _, rfl, iteT ?_⟩
      exact k _ (Same.refl _)
def spIsRow (K : PySem.W.Frag) : Sp := fun vs H Q _ => ∃ (a : Addr) (xs : List V) (lo hi : Int), vs = [.ref a, .int lo, .int hi] ∧ Sq K H a xs ∧ ∀ H', Same H H' → Q (.bl (decide (lo ≤ (xs.length : Int) ∧ (xs.length : Int) ≤ hi))) H'
abbrev s_is_row : Stmt := topS 4
abbrev sc_is_rowN : List Str := ["thing", "least", "most"]
abbrev ps_is_row : List Str := ["thing", "least", "most"]
theorem sc_is_row : FnScope sc_is_rowN ps_is_row (defScope s_is_row) := ⟨rfl, rfl, rfl, by decide +kernel, rfl, by decide +kernel, by decide +kernel⟩
theorem ok_is_row {f : Addr} {fd : FuncData} (F : Fun K "is_row" "is_row" s_is_row f fd) (T : Txt K mg CS) : FnOk P w K mg base CX0 1 f fd ps_is_row (spIsRow K) := by
  refine F.ok sc_is_row (fun vs H Q E h => ?_) (fun cdv A outer s H vs Q E hr h => ?_)
  · obtain ⟨_, _, _, _, rfl, _⟩ := h
    rfl
  · obtain ⟨a, xs, lo, hi, rfl, hx, k⟩ := h
    refine ⟨_, (pss_one (ps_ret (pe_and (pe_callB call_isiT (by rfl) T.n_isinstance (by decide +kernel) (pa_cons (pv 0) (pa_cons (pe_tup (pa_cons (pe_bltn (v := .ty "list") (by rfl) T.n_list (by decide +kernel) rfl) (pa_cons (pe_bltn (v := .ty "tuple") (by rfl) T.n_tuple (by decide +kernel) rfl) pa_nil))) pa_nil))) (pe_one (pe_chain op_le op_le (pv 1) (pe_callB call_len_seq (by rfl) T.n_len (by decide +kernel) (pa_cons (pv 0) pa_nil)) (pv 2)))))), ?_⟩
    refine ⟨_, rfl, (by show 2 ≤ sizeLine; decide), fun tp htp => ?_⟩
    have s1 : Same H (upd H tp (.tup [.ty "list", .ty "tuple"])) := same_new _ htp
    obtain ⟨t, ty, hk, _⟩ := seq_ty (hx.same s1)
    refine ⟨_, tp, _, _, _, _, rfl, upd_same, clsLT, ty, hk, _, rfl, iteT ?_⟩
    refine ⟨_, rfl, _, rfl, a, xs, rfl, hx.same s1, _, _, rfl, rfl, _, rfl, ifd (fun h1 => ?_) fun h1 => ?_⟩
    · refine ⟨_, rfl, _, _, rfl, rfl, ?_⟩
      have q := k _ s1
      rw [show decide (lo ≤ (xs.length : Int) ∧ (xs.length : Int) ≤ hi) = decide ((xs.length : Int) ≤ hi) from by simp [h1]] at q
      exact q
    · have q := k _ s1
      rw [show decide (lo ≤ (xs.length : Int) ∧ (xs.length : Int) ≤ hi) = false from decide_eq_false fun z => h1 z.1] at q
      exact q
def spIsTuple (K : PySem.W.Frag) : Sp := fun vs H Q _ => ∃ (a : Addr) (xs : List V) (m : Int), vs = [.ref a, .int m] ∧ SqT K H a xs ∧ Q (.bl (decide ((xs.length : Int) = m))) H
abbrev s_is_tuple : Stmt := topS 5
abbrev sc_is_tupleN : List Str := ["thing", "many"]
abbrev ps_is_tuple : List Str := ["thing", "many"]
theorem sc_is_tuple : FnScope sc_is_tupleN ps_is_tuple (defScope s_is_tuple) := ⟨rfl, rfl, rfl, by decide +kernel, rfl, by decide +kernel, by decide +kernel⟩
theorem ok_is_tuple {f : Addr} {fd : FuncData} (F : Fun K "is_tuple" "is_tuple" s_is_tuple f fd) (T : Txt K mg CS) : FnOk P w K mg base CX0 1 f fd ps_is_tuple (spIsTuple K) := by
  refine F.ok sc_is_tuple (fun vs H Q E h => ?_) (fun cdv A outer s H vs Q E hr h => ?_)
  · obtain ⟨_, _, _, rfl, _⟩ := h
    rfl
  · obtain ⟨a, xs, m, rfl, hx, k⟩ := h
    refine ⟨_, (pss_one (ps_ret (pe_and (pe_callB call_isi (by rfl) T.n_isinstance (by decide +kernel) (pa_cons (pv 0) (pa_cons (pe_bltn (v := .ty "tuple") (by rfl) T.n_tuple (by decide +kernel) rfl) pa_nil))) (pe_one (pe_cmpR op_eq (pe_callB call_len_seq (by rfl) T.n_len (by decide +kernel) (pa_cons (pv 0) pa_nil)) (pv 1) (nomark _)))))), ?_⟩
    obtain ⟨n, ty, hk⟩ := tup_ty hx
    refine ⟨_, rfl, _, _, _, _, _, rfl, .ty _, ty, hk, _, rfl, iteT ?_⟩
    refine ⟨_, rfl, a, xs, rfl, .inr hx, _, rfl, rfl, ?_⟩
    have e : decide (V.int (xs.length : Int) = V.int m) = decide ((xs.length : Int) = m) := by
      by_cases h : (xs.length : Int) = m
      · rw [decide_eq_true h, h]
        exact decide_eq_true rfl
      · rw [decide_eq_false h]
        exact decide_eq_false fun z => h (V.int.inj z)
    show Q (V.bl (decide (V.int (xs.length : Int) = V.int m))) H
    rw [e]
    exact k
/-- a row of good names, none twice -/
structure Nms (fs : List Str) : Prop where
  lo : 1 ≤ fs.length
  hi : fs.length ≤ 4
  nm : ∀ f ∈ fs, isNm f = true
  nd : fs.Nodup
theorem isNm_len {s : Str} (h : isNm s = true) : s.length ≤ 100000 := by
  unfold isNm at h
  simp only [Bool.and_eq_true, decide_eq_true_eq] at h
  omega
def spAreNames (K : PySem.W.Frag) : Sp := fun vs H Q _ => ∃ (a : Addr) (fs : List Str), vs = [.ref a, .int 1, .int 4] ∧ Sq K H a (fs.map V.str) ∧ Nms fs ∧ ∀ H', Same H H' → Q (.bl true) H'
abbrev s_are_names : Stmt := topS 6
abbrev sc_are_namesN : List Str := ["thing", "least", "most", "name"]
abbrev ps_are_names : List Str := ["thing", "least", "most"]
theorem sc_are_names : FnScope sc_are_namesN ps_are_names (defScope s_are_names) := ⟨rfl, rfl, rfl, by decide +kernel, rfl, by decide +kernel, by decide +kernel⟩
theorem ok_are_names {f : Addr} {fd : FuncData} (F : Fun K "are_names" "are_names" s_are_names f fd) (T : Txt K mg CS) (D_is_row : Df P w K mg base "is_row" 1 ps_is_row (spIsRow K)) (D_is_name : Df P w K mg base "is_name" 1 ps_is_name (spIsName K)) :
    FnOk P w K mg base CX0 2 f fd ps_are_names (spAreNames K) := by
  refine F.ok sc_are_names (fun vs H Q E h => ?_) (fun cdv A outer s H vs Q E hr h => ?_)
  · obtain ⟨_, _, rfl, _⟩ := h
    rfl
  · obtain ⟨a, fs, rfl, hx, N, k⟩ := h
    refine ⟨_, (pss_cons (ps_if (PW.pt (pw_or (pt_not (pt_val (pe_d D_is_row (hr.mono (by decide)) (pa_cons (pv 0) (pa_cons (pv 1) (pa_cons (pv 2) pa_nil)))))) (pw_or1 (pt_not (pt_val (pe_callB (cr_all (by rfl)) (by rfl) T.n_all (by decide +kernel) (pa_cons (pe_lc (own := [("name", 3)]) (g := gName 3) (tt := tYes) (by rfl) sc_are_names.nd (pi_any (pv 0)) (blkOk_by (own := [("name", 3)]) (N := sc_are_namesN) (sc := defScope s_are_names) (by decide +kernel)) (fun _ _ _ _ _ => pg_name (i := 3) sc_are_names.nd rfl (Or.inl rfl)) (fun _ _ _ _ _ => pts_nil) (fun _ _ _ _ _ => (pe_d D_is_name (hr.mono (by decide)) (pa_cons (pv 3) pa_nil)))) pa_nil)))))))
    (pss_one (ps_ret pe_bl))
    pss_nil)
  (pss_one (ps_ret (pe_cmpR op_eq (pe_lenS (by rfl) T.n_len T.n_set (pv 0)) (pe_callB call_len_seq (by rfl) T.n_len (by decide +kernel) (pa_cons (pv 0) pa_nil)) (nomark _))))), ?_⟩
    refine ⟨_, rfl, _, rfl, _, rfl, a, _, 1, 4, rfl, hx, fun H1 s1 => ⟨_, rfl, ?_⟩⟩
    have e1 : decide ((1 : Int) ≤ ((fs.map V.str).length : Int) ∧ ((fs.map V.str).length : Int) ≤ 4) = true := decide_eq_true (by
      have h1 := N.lo
      have h2 := N.hi
      rw [List.length_map]
      omega)
    rw [e1]
    have hx1 := hx.same s1
    refine iteF ⟨_, rfl, a, fs.map V.str, rfl, any_of (K := K) hx1 (Same.refl _) fun J G gm wk => (fun D hD => ?_)⟩
    refine lc_it wk (fun i H' => Same H1 H' ∧ H' D = some (.lst (((fs.map V.str).take i).map fun _ => V.bl true))) ⟨same_new _ hD, by rw [upd_same]; rfl⟩ (fun i H' _ z => gm H' z.1) ?_ ?_
    · rintro i x H2 H3 hi ⟨s2, d2⟩ ⟨rfl, hxi⟩
      obtain ⟨y, hy, rfl⟩ : ∃ y, y ∈ fs ∧ x = V.str y := by
        rw [List.getElem?_map] at hxi
        obtain ⟨y, q1, q2⟩ := Option.map_eq_some_iff.mp hxi
        exact ⟨y, List.mem_of_getElem? q1, q2.symm⟩
      refine ⟨rfl, _, rfl, _, true, rfl, .inl ⟨y, rfl, isNm_len (N.nm y hy), (N.nm y hy).symm⟩, fun H4 s4 => ?_⟩
      refine ⟨_, s4 _ _ d2, take_lt _ (by rw [List.length_map]; have q := N.hi; omega), same_put (s2.trans s4) _ hD, ?_⟩
      rw [upd_same, map_take _ hxi]
    · rintro H2 ⟨s2, d2⟩
      rw [List.take_length, List.map_map] at d2
      have e2 : fs.map ((fun _ => V.bl true) ∘ V.str) = (fs.map fun _ => true).map V.bl := by
        rw [List.map_map]
        rfl
      rw [e2] at d2
      refine ⟨D, _, rfl, .inl (.inl d2), _, rfl, ?_⟩
      have e3 : (fs.map fun _ => true).all id = true := by
        rw [List.all_map]
        simp
      rw [e3]
      refine iteF ⟨_, rfl, a, fs, rfl, hx1.same s2, by have q := N.hi; omega, _, rfl, a, _, rfl, hx1.same s2, rfl, ?_⟩
      have e4 : decide (V.int (dis fs : Int) = V.int ((fs.map V.str).length : Int)) = true := decide_eq_true (by rw [(dis_full fs).mpr N.nd, List.length_map])
      show Q (V.bl (decide (V.int (dis fs : Int) = V.int ((fs.map V.str).length : Int)))) H2
      rw [e4]
      exact k _ (s1.trans s2)
end
end Fm

/-! ## K01C -/
set_option Elab.async false
set_option maxRecDepth 100000
set_option maxHeartbeats 4000000
namespace Fm
open PySem L2
/-- a def that promises nothing keeps it -/
theorem fn_no {P : Program} {w : World} {K : PySem.W.Frag} {mg : Str → Option Value} {base : Heap} {k : Nat} {f : Addr} {fd : FuncData} {ps : List Str} {sp : Sp} (h : ∀ vs H Q E, sp vs H Q E → False) : FnOk P w K mg base CX0 k f fd ps sp :=
  ⟨fun vs H Q E z => (h vs H Q E z).elim, fun _ _ _ H _ _ vs Q E _ _ _ _ z => (h vs H Q E z).elim⟩
section
variable {P : Program} {w : World} {K : PySem.W.Frag} {mg : Str → Option Value} {base : Heap} {CS : Addr}
/-- a tree stands at v: a row, or a flat thing -/
theorem dp_ty {H : Hp} {d : PyData} {v : V} {n : Nat} (h : Dp K H v d) (hd : Dn (n + 1) d) :
    (∃ a vs ds, v = .ref a ∧ (SqL K H a vs ∨ SqT K H a vs) ∧ DpAll K H vs ds ∧ (∀ c ∈ ds, Dn n c) ∧ ds.length ≤ 100000 ∧ (d = .list ds ∧ SqL K H a vs ∨ d = .tuple ds ∧ SqT K H a vs)) ∨ (flatV v = true ∧ tupd d = d ∧ ∀ H', Dp K H' v d) := by
  cases hd with
  | none => cases h; exact .inr ⟨rfl, rfl, fun _ => .non⟩
  | bool _ b => cases h; exact .inr ⟨rfl, rfl, fun _ => .bl b⟩
  | int _ i => cases h; exact .inr ⟨rfl, rfl, fun _ => .int i⟩
  | str _ s => cases h; exact .inr ⟨rfl, rfl, fun _ => .str s⟩
  | list _ ds h1 h2 =>
    cases h with
    | lst hs ha => exact .inl ⟨_, _, ds, rfl, .inl hs, ha, h1, h2, .inl ⟨rfl, hs⟩⟩
  | tuple _ ds h1 h2 =>
    cases h with
    | tup hs ha => exact .inl ⟨_, _, ds, rfl, .inr hs, ha, h1, h2, .inr ⟨rfl, hs⟩⟩
theorem flat_ty {H : Hp} {v : V} (h : flatV v = true) : ∃ n, TyX K H v (.type n) ∧ PySem.W.kitAny K (.type n) [.type "list", .type "tuple"] = some false := by
  have two : ∀ n, kitB n "list" = some false → kitB n "tuple" = some false → PySem.W.kitAny K (.type n) [.type "list", .type "tuple"] = some false := fun n a b =>
    kitAny_cons (b := false) (kit_ty a) (fun _ => kitAny_cons (b := false) (kit_ty b) (fun _ => rfl) fun z => nomatch z) fun z => nomatch z
  cases v with
  | non => exact ⟨_, .base .non, two _ (by decide +kernel) (by decide +kernel)⟩
  | bl b => exact ⟨_, .base (.bl b), two _ (by decide +kernel) (by decide +kernel)⟩
  | int i => exact ⟨_, .base (.int i), two _ (by decide +kernel) (by decide +kernel)⟩
  | str s => exact ⟨_, .base (.str s), two _ (by decide +kernel) (by decide +kernel)⟩
  | byt b => cases h
  | flt b => cases h
  | ref a => cases h
  | ty n => cases h
/-- as_tuples: the same tree, all its rows as new tuples -/
def spTup (K : PySem.W.Frag) (n : Nat) : Sp := fun vs H Q _ => ∃ (v : V) (d : PyData), vs = [v] ∧ Dp K H v d ∧ Dn n d ∧ ∀ v' H' N, Same H H' → Fresh H H' N → Dp K N v' (tupd d) → Q v' H'
abbrev s_as_tuples : Stmt := topS 7
abbrev sc_as_tuplesN : List Str := ["thing", "part"]
abbrev ps_as_tuples : List Str := ["thing"]
theorem sc_as_tuples : FnScope sc_as_tuplesN ps_as_tuples (defScope s_as_tuples) := ⟨rfl, rfl, rfl, by decide +kernel, rfl, by decide +kernel, by decide +kernel⟩
theorem ok_as_tuples {f : Addr} {fd : FuncData} (F : Fun K "as_tuples" "as_tuples" s_as_tuples f fd) (T : Txt K mg CS) (hm : mg "as_tuples" = some (.ref f)) (hb : Binds K fd ps_as_tuples []) : ∀ n, FnOk P w K mg base CX0 n f fd ps_as_tuples (spTup K n)
  | 0 => fn_no fun vs H Q E h => by
    obtain ⟨_, d, _, _, hd, _⟩ := h
    cases hd
  | n + 1 => by
    have D_as_tuples : Df P w K mg base "as_tuples" n ps_as_tuples (spTup K n) := ⟨f, fd, ok_as_tuples F T hm hb n, hm, F.kp, hb⟩
    refine F.ok sc_as_tuples (fun vs H Q E h => ?_) (fun cdv A outer s H vs Q E hr h => ?_)
    · obtain ⟨_, _, rfl, _⟩ := h
      rfl
    · obtain ⟨v, d, rfl, hv, hd, k⟩ := h
      refine ⟨_, (pss_cons (ps_if (pt_val (pe_callB call_isiT (by rfl) T.n_isinstance (by decide +kernel) (pa_cons (pv 0) (pa_cons (pe_tup (pa_cons (pe_bltn (v := .ty "list") (by rfl) T.n_list (by decide +kernel) rfl) (pa_cons (pe_bltn (v := .ty "tuple") (by rfl) T.n_tuple (by decide +kernel) rfl) pa_nil))) pa_nil))))
    (pss_one (ps_ret (pe_callTy call_tuple_of (by rfl) T.n_tuple (by decide +kernel) (pa_cons (pe_lc (own := [("part", 1)]) (g := gName 1) (tt := tYes) (by rfl) sc_as_tuples.nd (pi_any (pv 0)) (blkOk_by (own := [("part", 1)]) (N := sc_as_tuplesN) (sc := defScope s_as_tuples) (by decide +kernel)) (fun _ _ _ _ _ => pg_name (i := 1) sc_as_tuples.nd rfl (Or.inl rfl)) (fun _ _ _ _ _ => pts_nil) (fun _ _ _ _ _ => (pe_d D_as_tuples hr (pa_cons (pv 1) pa_nil)))) pa_nil))))
    pss_nil)
  (pss_one (ps_ret (pv 0)))), ?_⟩
      refine ⟨_, rfl, (by show 2 ≤ sizeLine; decide), fun tp htp => ?_⟩
      have s1 : Same H (upd H tp (.tup [.ty "list", .ty "tuple"])) := same_new _ htp
      rcases dp_ty (dp_mono s1 d v hv) hd with ⟨a, xs, ds, rfl, hs, ha, hn, hl, hd2⟩ | ⟨hf, e, hv2⟩
      · obtain ⟨t, ty, hk, _⟩ := seq_ty hs
        have td : tupd d = .tuple (tupdL ds) := by
          rcases hd2 with ⟨rfl, _⟩ | ⟨rfl, _⟩ <;> rfl
        have len := dpA_len ha
        refine ⟨_, tp, _, _, _, _, rfl, upd_same, clsLT, ty, hk, _, rfl, iteT ?_⟩
        refine ⟨_, rfl, a, xs, rfl, any_of (K := K) hs (Same.refl _) fun J G gm wk => (fun D hD => ?_)⟩
        generalize upd H tp (.tup [.ty "list", .ty "tuple"]) = H1 at *
        refine lc_it wk (fun i H' => Same H1 H' ∧ ∃ ys N, H' D = some (.lst ys) ∧ ys.length ≤ 100000 ∧ i ≤ xs.length ∧ Fresh H1 H' N ∧ N D = none ∧ DpAll K N ys (tupdL (ds.take i))) ⟨same_new _ hD, [], nil0, upd_same, Nat.zero_le _, Nat.zero_le _, fresh_nil, rfl, .nil⟩ (fun i H' _ z => gm H' z.1) ?_ ?_
        · rintro i x H2 H3 hi ⟨s2, ys, N, d2, yl, il, fr, nD, da⟩ ⟨rfl, hx⟩
          obtain ⟨c, hc, hxc⟩ := dpA_at ha hx
          refine ⟨rfl, _, rfl, _, c, rfl, dp_mono s2 c x hxc, hn c (List.mem_of_getElem? hc), fun v' H4 M s4 fm dm => ?_⟩
          have n4 : M D = none := by
            cases q : M D with
            | none => rfl
            | some o =>
              have z := (fm D o q).1
              rw [d2] at z
              cases z
          have fu := fresh_uni fr fm s2 s4
          have yi : ys.length = i := by
            have q := dpA_len da
            rw [tupdL_map, List.length_map, List.length_take] at q
            omega
          refine ⟨ys, s4 _ _ d2, Nat.lt_of_le_of_lt yl (by decide), same_put (s2.trans s4) _ hD, ys ++ [v'], uni N M, upd_same, ?_, hi, ?_, ?_, ?_⟩
          · rw [List.length_append, List.length_singleton, yi]
            omega
          · intro b o q
            have nb : b ≠ D := fun z => by
              rw [z] at q
              rcases uni_or q with q | ⟨_, q⟩
              · rw [nD] at q; cases q
              · rw [n4] at q; cases q
            rw [upd_ne nb]
            exact fu b o q
          · show uni N M D = none
            unfold uni
            rw [nD]
            exact n4
          · rw [tupdL_map, map_take _ hc, ← tupdL_map]
            exact dpA_snoc (dpA_mono same_uni _ _ da) (dp_mono (same_uni2 fr fm) _ _ dm)
        · rintro H2 ⟨s2, ys, N, d2, yl, il, fr, nD, da⟩
          rw [len, List.take_length] at da
          refine ⟨D, ys, rfl, .inl ⟨.inl (.inl d2), fun l hl2 => ?_⟩⟩
          have f0 := fresh_new fr s2 (.tup ys) hl2
          refine k _ _ (upd N l (.tup ys)) (s1.trans (same_upd1 s2 _ hl2)) (fresh_back s1 f0) ?_
          rw [td]
          exact .tup (.inl (.inl upd_same)) (dpA_mono (same_freshNew fr _ hl2) _ _ da)
      · obtain ⟨t, ty, hk⟩ := flat_ty (K := K) (H := upd H tp (.tup [.ty "list", .ty "tuple"])) hf
        refine ⟨_, tp, _, _, _, _, rfl, upd_same, clsLT, ty, hk, _, rfl, iteF ⟨_, rfl, ?_⟩⟩
        exact k _ _ nil0 s1 fresh_nil (by rw [e]; exact hv2 _)
theorem ifF {c : Bool} {A B : Prop} (hc : c = false) (h : B) : if c = true then A else B := by
  rw [hc]
  exact iteF h
theorem ifT {c : Bool} {A B : Prop} (hc : c = true) (h : A) : if c = true then A else B := by
  rw [hc]
  exact iteT h
/-! ### tables -/
abbrev Tab := Str × List Str
structure TOk (t : Tab) : Prop where
  nm : isNm t.1 = true
  fs : Nms t.2
def tabD (b : Bool) (t : Tab) : PyData := .tuple [.str t.1, if b = true then .list (t.2.map PyData.str) else .tuple (t.2.map PyData.str)]
theorem tabD_tupd (b : Bool) (t : Tab) : tupd (tabD b t) = tabD false t := by
  have e : ∀ xs : List Str, tupdL (xs.map PyData.str) = xs.map PyData.str := fun xs => by
    rw [tupdL_map, List.map_map]
    rfl
  cases b with
  | true => show PyData.tuple [.str t.1, .tuple (tupdL (t.2.map PyData.str))] = .tuple [.str t.1, .tuple (t.2.map PyData.str)]; rw [e]
  | false => show PyData.tuple [.str t.1, .tuple (tupdL (t.2.map PyData.str))] = .tuple [.str t.1, .tuple (t.2.map PyData.str)]; rw [e]
/-- what stands at a table -/
theorem tab_inv {H : Hp} {v : V} {b : Bool} {t : Tab} (h : Dp K H v (tabD b t)) : ∃ p q, v = .ref p ∧ SqT K H p [.str t.1, .ref q] ∧ Sq K H q (t.2.map V.str) ∧ (b = true → SqL K H q (t.2.map V.str)) ∧ (b = false → SqT K H q (t.2.map V.str)) := by
  unfold tabD at h
  cases h with
  | tup hs ha =>
    cases ha with
    | cons h1 h2 =>
      cases h2 with
      | cons h2 h3 =>
        cases h3
        cases h1
        cases b with
        | true =>
          cases h2 with
          | lst hs2 ha2 =>
            rw [dpA_strs_inv ha2] at hs2
            exact ⟨_, _, rfl, hs, .inl hs2, fun _ => hs2, fun z => nomatch z⟩
        | false =>
          cases h2 with
          | tup hs2 ha2 =>
            rw [dpA_strs_inv ha2] at hs2
            exact ⟨_, _, rfl, hs, .inr hs2, (fun z => nomatch z), fun _ => hs2⟩
theorem tab_dn {b : Bool} {t : Tab} (h : TOk t) : Dn 3 (tabD b t) := by
  have l : t.2.length ≤ 100000 := by have q := h.fs.hi; omega
  obtain ⟨q1, q2⟩ := dn_strs (n := 0) l
  refine .tuple 2 _ (fun d m => ?_) (by show 2 ≤ 100000; decide)
  rcases List.mem_cons.mp m with rfl | m
  · exact .str 1 _
  · rcases List.mem_cons.mp m with rfl | m
    · cases b with
      | true => exact .list 1 _ q1 q2
      | false => exact .tuple 1 _ q1 q2
    · cases m
def spIsTable (K : PySem.W.Frag) : Sp := fun vs H Q _ => ∃ (v : V) (b : Bool) (t : Tab), vs = [v] ∧ Dp K H v (tabD b t) ∧ TOk t ∧ ∀ H', Same H H' → Q (.bl true) H'
abbrev s_is_table : Stmt := topS 17
abbrev sc_is_tableN : List Str := ["thing"]
abbrev ps_is_table : List Str := ["thing"]
theorem sc_is_table : FnScope sc_is_tableN ps_is_table (defScope s_is_table) := ⟨rfl, rfl, rfl, by decide +kernel, rfl, by decide +kernel, by decide +kernel⟩
theorem ok_is_table {f : Addr} {fd : FuncData} (F : Fun K "is_table" "is_table" s_is_table f fd) (T : Txt K mg CS) (D_is_tuple : Df P w K mg base "is_tuple" 1 ps_is_tuple (spIsTuple K)) (D_is_name : Df P w K mg base "is_name" 1 ps_is_name (spIsName K))
    (D_are_names : Df P w K mg base "are_names" 2 ps_are_names (spAreNames K)) : FnOk P w K mg base CX0 3 f fd ps_is_table (spIsTable K) := by
  refine F.ok sc_is_table (fun vs H Q E h => ?_) (fun cdv A outer s H vs Q E hr h => ?_)
  · obtain ⟨_, _, _, rfl, _⟩ := h
    rfl
  · obtain ⟨v, b, t, rfl, hv, ok, k⟩ := h
    obtain ⟨p, q, rfl, hp, hq, _⟩ := tab_inv hv
    refine ⟨_, (pss_one (ps_ret (pe_and (pe_d D_is_tuple (hr.mono (by decide)) (pa_cons (pv 0) (pa_cons pe_int pa_nil))) (pe_and (pe_d D_is_name (hr.mono (by decide)) (pa_cons (pe_ix ix_tup (pv 0) pe_int (fun _ _ => rfl)) pa_nil)) (pe_one (pe_d D_are_names (hr.mono (by decide)) (pa_cons (pe_ix ix_tup (pv 0) pe_int (fun _ _ => rfl)) (pa_cons pe_int (pa_cons (pe_gI T.g_MOST_FIELDS) pa_nil))))))))), ?_⟩
    refine ⟨_, rfl, p, _, 2, rfl, hp, _, rfl, iteT ?_⟩
    refine ⟨_, rfl, p, _, 0, _, rfl, rfl, hp, rfl, _, true, rfl, .inl ⟨t.1, rfl, isNm_len ok.nm, ok.nm.symm⟩, fun H1 s1 => ⟨_, rfl, iteT ?_⟩⟩
    refine ⟨_, rfl, p, _, 1, _, rfl, rfl, same_sqT s1 hp, rfl, q, t.2, rfl, hq.same s1, ok.fs, fun H2 s2 => ?_⟩
    exact k _ (s1.trans s2)
/-- the tables of a shape -/
structure TsOk (ts : List Tab) : Prop where
  lo : 1 ≤ ts.length
  hi : ts.length ≤ 5
  ok : ∀ t ∈ ts, TOk t
  nd : (ts.map (·.1)).Nodup
def TabsD (ds : List PyData) (ts : List Tab) : Prop := Paired (fun d t => ∃ b, d = tabD b t) ds ts
theorem TabsD.at : ∀ {ds : List PyData} {ts : List Tab} {i : Nat} {d : PyData}, TabsD ds ts → ds[i]? = some d → ∃ t b, ts[i]? = some t ∧ d = tabD b t
  | _, _, _, _, .nil, e => by simp at e
  | _, _, 0, _, .cons r _, e => by
    simp at e
    subst e
    obtain ⟨b, rfl⟩ := r
    exact ⟨_, b, rfl, rfl⟩
  | _, _, i + 1, d, .cons _ r, e => by
    obtain ⟨t, b, h1, h2⟩ := TabsD.at (i := i) (d := d) r (by simpa using e)
    exact ⟨t, b, by simpa using h1, h2⟩
theorem TabsD.tupd {ds : List PyData} {ts : List Tab} (h : TabsD ds ts) : tupdL ds = ts.map (tabD false) := by
  induction h with
  | nil => rfl
  | cons r _ ih =>
    obtain ⟨b, rfl⟩ := r
    show Fm.tupd (tabD b _) :: tupdL _ = _
    rw [ih, tabD_tupd]
    rfl
theorem TabsD.dn {ds : List PyData} {ts : List Tab} (h : TabsD ds ts) (ok : ∀ t ∈ ts, TOk t) : ∀ d ∈ ds, Dn 3 d := fun d m => by
  obtain ⟨i, _, e⟩ := List.getElem_of_mem m
  obtain ⟨t, b, h1, rfl⟩ := h.at (i := i) (d := d) (by rw [← e]; exact List.getElem?_eq_getElem _)
  exact tab_dn (ok t (List.mem_of_getElem? h1))
def spCheck (K : PySem.W.Frag) : Sp := fun vs H Q _ => ∃ (a : Addr) (xs : List V) (ds : List PyData) (ts : List Tab), vs = [.ref a] ∧ Sq K H a xs ∧ DpAll K H xs ds ∧ TabsD ds ts ∧ TsOk ts ∧ ∀ H', Same H H' → Q .non H'
abbrev s_check_tables : Stmt := topS 16
abbrev sc_check_tablesN : List Str := ["tables", "names", "at", "table"]
abbrev ps_check_tables : List Str := ["tables"]
theorem sc_check_tables : FnScope sc_check_tablesN ps_check_tables (defScope s_check_tables) := ⟨rfl, rfl, rfl, by decide +kernel, rfl, by decide +kernel, by decide +kernel⟩
theorem ok_check_tables {f : Addr} {fd : FuncData} (F : Fun K "check_tables" "check_tables" s_check_tables f fd) (T : Txt K mg CS) (D_is_row : Df P w K mg base "is_row" 1 ps_is_row (spIsRow K)) (D_is_table : Df P w K mg base "is_table" 3 ps_is_table (spIsTable K)) :
    FnOk P w K mg base CX0 4 f fd ps_check_tables (spCheck K) := by
  refine F.ok sc_check_tables (fun vs H Q E h => ?_) (fun cdv A outer s H vs Q E hr h => ?_)
  · obtain ⟨_, _, _, _, rfl, _⟩ := h
    rfl
  · obtain ⟨a, xs, ds, ts, rfl, hs, ha, td, ok, k⟩ := h
    have len : xs.length = ts.length := (dpA_len ha).trans (Paired.length td)
    refine ⟨_, (pss_cons (ps_if (pt_not (pt_val (pe_d D_is_row (hr.mono (by decide)) (pa_cons (pv 0) (pa_cons pe_int (pa_cons (pe_gI T.g_MOST_TABLES) pa_nil))))))
    (pss_one ps_never)
    pss_nil)
  (pss_cons (ps_set (i := 1) sc_check_tables.nd rfl (Or.inl rfl) (pe_lst pa_nil))
  (pss_one (ps_for PassesOwn.never rfl (pi_enumA (by rfl) T.n_enumerate (pa_cons (pv 0) pa_nil)) (pg_tup (by rfl) (pgs_cons (pg_name (i := 2) sc_check_tables.nd rfl (Or.inl rfl)) (pgs_cons (pg_name (i := 3) sc_check_tables.nd rfl (Or.inl rfl)) pgs_nil)))
    (pss_cons (ps_if (PW.pt (pw_or (pt_not (pt_val (pe_d D_is_table (hr.mono (by decide)) (pa_cons (pv 3) pa_nil)))) (pw_or1 (pt_cmpR op_in_seq (pe_ix ix_tup (pv 3) pe_int (fun _ _ => rfl)) (pv 1) (by rfl)))))
      (pss_one ps_never)
      pss_nil)
    (pss_one (ps_expr (pe_bm PySem.F.plainAttrs_list PySem.F.slot_list_append PySem.F.type_list_append mt_append (pv 1) (pa_cons (pe_ix ix_tup (pv 3) pe_int (fun _ _ => rfl)) pa_nil))))))))), ?_⟩
    refine ⟨_, rfl, a, xs, 1, 5, rfl, hs, fun H1 s1 => ⟨_, rfl, ?_⟩⟩
    have e1 : decide ((1 : Int) ≤ (xs.length : Int) ∧ (xs.length : Int) ≤ 5) = true := decide_eq_true (by
      have h1 := ok.lo
      have h2 := ok.hi
      omega)
    rw [e1]
    refine iteF ⟨Nat.zero_le _, fun l hl => ?_⟩
    refine ⟨_, rfl, a, xs, rfl, enum_of (K := K) (hs.same s1) (same_new _ hl) fun J G gm wk => ?_⟩
    refine for_it wk (fun i σ H' => ∃ v2 v3, σ = [some (.ref a), some (.ref l), v2, v3] ∧ Same H1 H' ∧ H' l = some (.lst (((ts.map (·.1)).take i).map V.str)))
      ⟨_, _, rfl, same_new _ hl, by rw [upd_same]; rfl⟩ (fun i σ H' _ z => by obtain ⟨_, _, _, z, _⟩ := z; exact gm H' z) ?_ ?_
    · rintro i x σ H2 H3 hi ⟨v2, v3, rfl, s2, d2⟩ ⟨T, x1, y, rfl, hT, rfl, e1, hy⟩
      obtain rfl : V.int (i : Nat) = x1 := Option.some.inj e1
      obtain ⟨c, hc, hdp⟩ := dpA_at ha hy
      obtain ⟨t, b, ht, rfl⟩ := td.at hc
      have tok := ok.ok t (List.mem_of_getElem? ht)
      have hn : (ts.map (·.1))[i]? = some t.1 := by rw [List.getElem?_map, ht]; rfl
      have s3 : Same H1 (upd H2 T (.tup [V.int (i : Nat), y])) := s2.trans (same_new _ hT)
      have hy3 := dp_mono (s1.trans s3) _ _ hdp
      have nlT : l ≠ T := ne_of_none d2 hT
      obtain ⟨p, q, rfl, hp, _⟩ := tab_inv hy3
      refine ⟨T, _, rfl, .inl (.inl upd_same), rfl, _, _, rfl, _, _, rfl, rfl, ?_⟩
      refine ⟨_, rfl, _, b, t, rfl, hy3, tok, fun H4 s4 => ⟨_, rfl, iteF ?_⟩⟩
      have d4 : H4 l = some (.lst (((ts.map (·.1)).take i).map V.str)) := s4 _ _ (by rw [upd_ne nlT]; exact d2)
      have hp4 := same_sqT s4 hp
      have notin : inV (V.str t.1) (((ts.map (·.1)).take i).map V.str) = false := by
        rw [inV_str]
        exact decide_eq_false (nodup_take ok.nd hn)
      refine ⟨_, rfl, p, _, 0, _, rfl, rfl, hp4, rfl, _, rfl, l, _, rfl, .inl (.inl (.inl d4)), rfl, flat_strs _, _, rfl, ifF notin ?_⟩
      refine ⟨_, rfl, .inl ⟨rfl, _, .inl (.inl d4)⟩, _, rfl, p, _, 0, _, rfl, rfl, hp4, rfl, l, _, _, rfl, rfl, d4, take_lt _ (by rw [List.length_map]; have q := ok.hi; omega), ?_⟩
      refine ⟨_, _, rfl, same_put (s3.trans s4) _ hl, ?_⟩
      rw [upd_same, map_take _ hn]
    · rintro σ H2 ⟨v2, v3, rfl, s2, _⟩
      exact k _ (s1.trans s2)
/-! ### the class -/
def shF (v : V) : List (Str × V) := [("tables", v)]
/-- a new shape -/
def spShInit (K : PySem.W.Frag) (CS : Addr) : Sp := fun vs H Q _ => ∃ (x dx : Addr) (a : Addr) (xs : List V) (d : PyData) (ds : List PyData) (ts : List Tab), vs = [.ref x, .ref a] ∧ H x = some (.ins CS dx []) ∧ (d = .list ds ∧ SqL K H a xs ∨ d = .tuple ds ∧ SqT K H a xs) ∧ DpAll K H xs ds ∧ TabsD ds ts ∧ TsOk ts ∧
  ∀ (v : V) (H' N : Hp), (∀ b o, b ≠ x → H b = some o → H' b = some o) → H' x = some (.ins CS dx (shF v)) → (∀ b o, N b = some o → H b = none ∧ H' b = some o) → Dp K N v (.tuple (ts.map (tabD false))) → Q .non H'
abbrev s_Shape_init : Stmt := inClass (topS 15) 0
abbrev sc_Shape_initN : List Str := ["self", "tables"]
abbrev ps_Shape_init : List Str := ["self", "tables"]
theorem sc_Shape_init : FnScope sc_Shape_initN ps_Shape_init (defScope s_Shape_init) := ⟨rfl, rfl, rfl, by decide +kernel, rfl, by decide +kernel, by decide +kernel⟩
theorem ok_Shape_init {f : Addr} {fd : FuncData} (F : Fun K "__init__" "Shape.__init__" s_Shape_init f fd) (T : Txt K mg CS) (D_check_tables : Df P w K mg base "check_tables" 4 ps_check_tables (spCheck K)) (D_as_tuples : Df P w K mg base "as_tuples" 4 ps_as_tuples (spTup K 4)) :
    FnOk P w K mg base CX0 5 f fd ps_Shape_init (spShInit K CS) := by
  refine F.ok sc_Shape_init (fun vs H Q E h => ?_) (fun cdv A outer s H vs Q E hr h => ?_)
  · obtain ⟨_, _, _, _, _, _, _, rfl, _⟩ := h
    rfl
  · obtain ⟨x, dx, a, xs, d, ds, ts, rfl, hx, hd, ha, td, ok, k⟩ := h
    have hs : Sq K H a xs := hd.elim (fun z => .inl z.2) fun z => .inr z.2
    refine ⟨_, (pss_cons (ps_expr (pe_d D_check_tables (hr.mono (by decide)) (pa_cons (pv 1) pa_nil)))
  (pss_one (ps_fld (pv 0) (pe_d D_as_tuples (hr.mono (by decide)) (pa_cons (pv 1) pa_nil)) rfl))), ?_⟩
    refine ⟨_, rfl, a, xs, ds, ts, rfl, hs, ha, td, ok, fun H1 s1 => ?_⟩
    have hdp : Dp K H1 (.ref a) d := by
      rcases hd with ⟨rfl, h⟩ | ⟨rfl, h⟩
      · exact .lst (s1.seq h) (dpA_mono s1 _ _ ha)
      · exact .tup (same_sqT s1 h) (dpA_mono s1 _ _ ha)
    have hl : ds.length ≤ 100000 := by have q := ok.hi; have z := Paired.length td; omega
    have hdn : Dn 4 d := by
      rcases hd with ⟨rfl, h⟩ | ⟨rfl, h⟩
      · exact .list 3 _ (td.dn ok.ok) hl
      · exact .tuple 3 _ (td.dn ok.ok) hl
    have htd : tupd d = .tuple (ts.map (tabD false)) := by
      rcases hd with ⟨rfl, h⟩ | ⟨rfl, h⟩
      · show PyData.tuple (tupdL ds) = _
        rw [td.tupd]
      · show PyData.tuple (tupdL ds) = _
        rw [td.tupd]
    refine ⟨_, rfl, _, d, rfl, hdp, hdn, fun v H2 N s2 fr dn => ?_⟩
    have hx2 := s2 _ _ (s1 _ _ hx)
    refine ⟨_, rfl, x, CS, dx, [], rfl, hx2, T.cl, T.nT, (by show 0 < 1000; decide), ?_⟩
    have nx : ∀ b o, N b = some o → b ≠ x := fun b o q z => by
      have y := (fr b o q).1
      rw [z, s1 _ _ hx] at y
      cases y
    refine k v _ N (fun b o n q => ?_) ?_ (fun b o q => ?_) (by rw [← htd]; exact dn)
    · rw [upd_ne n]
      exact s2 _ _ (s1 _ _ q)
    · rw [upd_same]
      rfl
    · rw [upd_ne (nx b o q)]
      exact ⟨s1.free (fr b o q).1, (fr b o q).2⟩
end
end Fm

/-! ## K01D -/
set_option Elab.async false
set_option maxRecDepth 100000
set_option maxHeartbeats 4000000
namespace Fm
open PySem L2
theorem PyData.strOk_nm {s : Str} (h : isNm s = true) : PyData.strOk s = true := by
  unfold isNm at h
  simp only [Bool.and_eq_true, List.all_eq_true, decide_eq_true_eq] at h
  show s.cps.all (· < 0x110000) = true
  rw [← Array.all_toList, List.all_eq_true]
  intro c m
  have q := h.2 c m
  exact decide_eq_true (by omega)
theorem canLay_strs : ∀ {xs : List Str}, (∀ f ∈ xs, isNm f = true) → PyData.canLayAll0 (xs.map PyData.str) = true
  | [], _ => rfl
  | x :: xs, h => by
    show (PyData.strOk x && PyData.canLayAll0 (xs.map PyData.str)) = true
    rw [PyData.strOk_nm (h x List.mem_cons_self), canLay_strs fun f m => h f (List.mem_cons_of_mem _ m)]
    rfl
theorem depth_strs : ∀ (xs : List Str), PyData.depthAll (xs.map PyData.str) = 0
  | [] => rfl
  | x :: xs => by
    show max 0 (PyData.depthAll (xs.map PyData.str)) = 0
    rw [depth_strs xs]
    rfl
theorem canLay_tabs : ∀ {ts : List Tab}, (∀ t ∈ ts, TOk t) → PyData.canLayAll0 (ts.map (tabD false)) = true
  | [], _ => rfl
  | t :: ts, h => by
    have ok := h t List.mem_cons_self
    show ((PyData.strOk t.1 && (PyData.canLayAll0 (t.2.map PyData.str) && true)) && PyData.canLayAll0 (ts.map (tabD false))) = true
    rw [PyData.strOk_nm ok.nm, canLay_strs ok.fs.nm, canLay_tabs fun u m => h u (List.mem_cons_of_mem _ m)]
    rfl
theorem depth_tabs : ∀ (ts : List Tab), PyData.depthAll (ts.map (tabD false)) ≤ 2
  | [] => Nat.zero_le _
  | t :: ts => by
    show max (max 0 (max (PyData.depthAll (t.2.map PyData.str) + 1) 0) + 1) (PyData.depthAll (ts.map (tabD false))) ≤ 2
    have ih := depth_tabs ts
    rw [depth_strs]
    omega
theorem shaped_tabs {ts : List Tab} (h : ∀ t ∈ ts, TOk t) : SeqAt.shaped (.tuple (ts.map (tabD false))) = true := by
  have d := depth_tabs ts
  show (PyData.canLayAll0 (ts.map (tabD false)) && decide (PyData.depthAll (ts.map (tabD false)) + 1 ≤ 64)) = true
  rw [canLay_tabs h, decide_eq_true (by omega)]
  rfl
theorem eqv_strs : ∀ (xs ys : List Str), PyData.eqvAll (xs.map PyData.str) (ys.map PyData.str) = decide (xs = ys)
  | [], [] => rfl
  | [], _ :: _ => rfl
  | _ :: _, [] => rfl
  | x :: xs, y :: ys => by
    show ((x == y) && PyData.eqvAll (xs.map PyData.str) (ys.map PyData.str)) = decide (x :: xs = y :: ys)
    rw [eqv_strs xs ys]
    by_cases h1 : x = y
    · subst h1
      by_cases h2 : xs = ys
      · simp [h2]
      · simp [h2]
    · have q : (x == y) = false := by simpa using h1
      rw [q]
      simp [h1]
theorem eqv_tab (t u : Tab) : PyData.eqv (tabD false t) (tabD false u) = decide (t = u) := by
  show ((t.1 == u.1) && (PyData.eqvAll (t.2.map PyData.str) (u.2.map PyData.str) && true)) = decide (t = u)
  rw [eqv_strs]
  obtain ⟨a, b⟩ := t
  obtain ⟨c, d⟩ := u
  by_cases h1 : a = c
  · subst h1
    by_cases h2 : b = d
    · simp [h2]
    · simp [h2]
  · have q : (a == c) = false := by simpa using h1
    simp only [q]
    simp [h1]
theorem eqv_tabs : ∀ (ts us : List Tab), PyData.eqvAll (ts.map (tabD false)) (us.map (tabD false)) = decide (ts = us)
  | [], [] => rfl
  | [], _ :: _ => rfl
  | _ :: _, [] => rfl
  | t :: ts, u :: us => by
    show (PyData.eqv (tabD false t) (tabD false u) && PyData.eqvAll (ts.map (tabD false)) (us.map (tabD false))) = decide (t :: ts = u :: us)
    rw [eqv_tab, eqv_tabs ts us]
    by_cases h1 : t = u
    · by_cases h2 : ts = us <;> simp [h1, h2]
    · simp [h1]
section
variable {P : Program} {w : World} {K : PySem.W.Frag} {mg : Str → Option Value} {base : Heap} {CS : Addr}
def shTys : List String := ["NoneType", "bool", "int", "str", "list", "tuple", "dict"]
/-- a shape of the tables ts stands at a -/
def ShAt (K : PySem.W.Frag) (CS : Addr) (H : Hp) (a : Addr) (ts : List Tab) : Prop := ∃ dx v, H a = some (.ins CS dx (shF v)) ∧ Dp K H v (.tuple (ts.map (tabD false)))
def spShEq (K : PySem.W.Frag) (CS : Addr) : Sp := fun vs H Q _ => ∃ (a : Addr) (y : V) (ts : List Tab), vs = [.ref a, y] ∧ ShAt K CS H a ts ∧ (∀ t ∈ ts, TOk t) ∧
  ((∃ b us, y = .ref b ∧ ShAt K CS H b us ∧ (∀ t ∈ us, TOk t) ∧ Q (.bl (decide (ts = us))) H) ∨ ∃ n ∈ shTys, TyX K H y (.type n) ∧ Q (.bl false) H)
abbrev s_Shape_eq : Stmt := inClass (topS 15) 1
abbrev sc_Shape_eqN : List Str := ["self", "other"]
abbrev ps_Shape_eq : List Str := ["self", "other"]
theorem sc_Shape_eq : FnScope sc_Shape_eqN ps_Shape_eq (defScope s_Shape_eq) := ⟨rfl, rfl, rfl, by decide +kernel, rfl, by decide +kernel, by decide +kernel⟩
theorem ok_Shape_eq {f : Addr} {fd : FuncData} (F : Fun K "__eq__" "Shape.__eq__" s_Shape_eq f fd) (T : Txt K mg CS) : FnOk P w K mg base CX0 1 f fd ps_Shape_eq (spShEq K CS) := by
  refine F.ok sc_Shape_eq (fun vs H Q E h => ?_) (fun cdv A outer s H vs Q E hr h => ?_)
  · obtain ⟨_, _, _, rfl, _⟩ := h
    rfl
  · obtain ⟨a, y, ts, rfl, ⟨dx, v, ha, dv⟩, ok, h⟩ := h
    refine ⟨_, (pss_one (ps_ret (pe_and (pe_callB call_isi (by rfl) T.n_isinstance (by decide +kernel) (pa_cons (pv 1) (pa_cons (pe_glob (v := .ref CS) rfl T.g_Shape rfl) pa_nil))) (pe_one (pe_cmpR (op_eqD hr.units) (pe_fld (pv 0) rfl) (pe_fld (pv 1) rfl) (nomark _)))))), ?_⟩
    rcases h with ⟨b, us, rfl, ⟨dy, u, hb, du⟩, ok2, k⟩ | ⟨n, hn, ty, k⟩
    · have kk : PySem.W.kitOne K (.ref CS) (.ref CS) = some true := by
        show (if (Value.ref CS == Value.ref CS) = true then some true else _) = some true
        rw [if_pos (beq_self_eq_true _)]
      refine ⟨_, rfl, _, _, _, _, _, rfl, .own _, .base (.ins hb T.cl T.c_cls T.c_get T.c_tak T.c_mro), kk, _, rfl, iteT ?_⟩
      refine ⟨_, rfl, a, CS, dx, _, v, rfl, ha, T.cl, T.nT, rfl, _, rfl, b, CS, dy, _, u, rfl, hb, T.cl, T.nT, rfl, _, _, dv, du, shaped_tabs ok, shaped_tabs ok2, ?_⟩
      show Q (V.bl (PyData.eqvAll (ts.map (tabD false)) (us.map (tabD false)))) H
      rw [eqv_tabs]
      exact k
    · refine ⟨_, rfl, _, _, _, _, _, rfl, .own _, ty, T.c_isi n hn, _, rfl, iteF ?_⟩
      exact k
/-- the fields of a table that is there -/
def spFields (K : PySem.W.Frag) (CS : Addr) : Sp := fun vs H Q _ => ∃ (a : Addr) (t : Tab) (ts : List Tab), vs = [.ref a, .str t.1] ∧ ShAt K CS H a ts ∧ (ts.map (·.1)).Nodup ∧ t ∈ ts ∧ ∀ q, SqT K H q (t.2.map V.str) → Q (.ref q) H
abbrev s_Shape_fields_of : Stmt := inClass (topS 15) 2
abbrev sc_Shape_fields_ofN : List Str := ["self", "name", "table", "fields"]
abbrev ps_Shape_fields_of : List Str := ["self", "name"]
theorem sc_Shape_fields_of : FnScope sc_Shape_fields_ofN ps_Shape_fields_of (defScope s_Shape_fields_of) := ⟨rfl, rfl, rfl, by decide +kernel, rfl, by decide +kernel, by decide +kernel⟩
theorem ok_Shape_fields_of {f : Addr} {fd : FuncData} (F : Fun K "fields_of" "Shape.fields_of" s_Shape_fields_of f fd) (T : Txt K mg CS) : FnOk P w K mg base CX0 1 f fd ps_Shape_fields_of (spFields K CS) := by
  refine F.ok sc_Shape_fields_of (fun vs H Q E h => ?_) (fun cdv A outer s H vs Q E hr h => ?_)
  · obtain ⟨_, _, _, rfl, _⟩ := h
    rfl
  · obtain ⟨a, t, ts, rfl, ⟨dx, v, ha, dv⟩, nd, ht, k⟩ := h
    obtain ⟨j, hj, ej⟩ := List.getElem_of_mem ht
    have tj : ts[j]? = some t := by rw [← ej]; exact List.getElem?_eq_getElem _
    cases dv with
    | @tup p xs _ hs da =>
      have len : xs.length = ts.length := by rw [dpA_len da, List.length_map]
      refine ⟨_, (pss_cons (ps_for PassesOwn.never rfl (pi_tup (pe_fld (pv 0) rfl)) (pg_tup (by rfl) (pgs_cons (pg_name (i := 2) sc_Shape_fields_of.nd rfl (Or.inl rfl)) (pgs_cons (pg_name (i := 3) sc_Shape_fields_of.nd rfl (Or.inl rfl)) pgs_nil)))
    (pss_one (ps_if (pt_cmpR op_eq (pv 2) (pv 1) (nomark _))
      (pss_one (ps_ret (pv 3)))
      pss_nil)))
  (pss_one ps_never)), ?_⟩
      refine ⟨_, rfl, a, CS, dx, _, _, rfl, ha, T.cl, T.nT, rfl, p, rfl, ⟨_, hs⟩, for_tup (K := K) (a := p) (xs := xs) (fun i σ H' => ∃ v2 v3, σ = [some (.ref a), some (.str t.1), v2, v3] ∧ H' = H ∧ i ≤ j) ⟨_, _, rfl, rfl, Nat.zero_le _⟩ (fun i σ H' _ z => by obtain ⟨_, _, _, rfl, _⟩ := z; exact hs) ?_ ?_⟩
      · rintro i x σ H' hx ⟨v2, v3, rfl, rfl, hi⟩
        obtain ⟨c, hc, hd⟩ := dpA_at da hx
        rw [List.getElem?_map] at hc
        obtain ⟨u, hu, rfl⟩ := Option.map_eq_some_iff.mp hc
        obtain ⟨q, r, rfl, hq, _, _, hr2⟩ := tab_inv hd
        refine ⟨q, _, rfl, hq, rfl, _, _, rfl, _, _, rfl, rfl, ?_⟩
        refine ⟨_, rfl, _, rfl, rfl, _, rfl, ifd (fun e => ?_) fun e => ?_⟩
        · have eu : u.1 = t.1 := V.str.inj e
          have ij : i = j := nd_ix (l := ts.map (·.1)) nd (i := i) (j := j) (x := t.1) (by rw [List.getElem?_map, hu, ← eu]; rfl) (by rw [List.getElem?_map, tj]; rfl)
          subst ij
          rw [tj] at hu
          obtain rfl : t = u := Option.some.inj hu
          exact ⟨_, rfl, k _ (hr2 rfl)⟩
        · refine ⟨_, _, rfl, rfl, ?_⟩
          have ne : i ≠ j := fun z => by
            rw [z, tj] at hu
            rw [Option.some.inj hu] at e
            exact e rfl
          omega
      · rintro σ H' ⟨v2, v3, rfl, rfl, hi⟩
        omega
end
end Fm

/-! ## FmName -/
set_option Elab.async false
set_option maxRecDepth 100000
set_option maxHeartbeats 4000000
/-! Names that are drawn: letters put together, a letter behind a stem until it is new. -/
namespace Fm
open PySem L2
theorem bag_junk {F H : Hp} {b p : Addr} (B : Bag F H b) (o : HO) (hp : H p = none) : Bag F (upd H p o) b := bag_same B (same_new o hp)
theorem bag_sub {F F1 H : Hp} {b : Addr} (s : Same F F1) (B : Bag F1 H b) : Bag F H b := by
  obtain ⟨h, fb, cl, ns, p, g, z, c, hh, e1, r⟩ := B
  exact ⟨s.trans h, s.free fb, cl, ns, p, g, z, c, hh, s.free e1, r⟩
theorem at_mem {α : Type} {xs : List α} {r : Int} (h0 : 0 ≤ r) (h1 : r < (xs.length : Int)) : ∃ v, atI xs r = some v ∧ v ∈ xs := by
  obtain ⟨n, rfl⟩ : ∃ n : Nat, r = (n : Int) := ⟨r.toNat, by omega⟩
  have h : n < xs.length := by omega
  exact ⟨xs[n], atI_nat (List.getElem?_eq_getElem h), List.getElem_mem h⟩
theorem nodup_le {α : Type} [DecidableEq α] : ∀ {l m : List α}, l.Nodup → (∀ x ∈ l, x ∈ m) → l.length ≤ m.length
  | [], _, _, _ => Nat.zero_le _
  | x :: r, m, hN, hs => by
    have hx := hs x List.mem_cons_self
    have q := List.nodup_cons.mp hN
    have ih := nodup_le (l := r) (m := m.erase x) q.2 fun y hy => by
      have n : y ≠ x := fun z => q.1 (by rw [← z]; exact hy)
      exact (List.mem_erase_of_ne n).mpr (hs y (List.mem_cons_of_mem _ hy))
    rw [List.length_erase_of_mem hx] at ih
    have pos : 0 < m.length := List.length_pos_of_mem hx
    rw [List.length_cons]
    omega
abbrev one (c : Nat) : Str := ⟨#[c]⟩
def ofL (cs : List Nat) : Str := ⟨cs.toArray⟩
theorem isNm_ofL {cs : List Nat} (h1 : 1 ≤ cs.length) (h2 : cs.length ≤ 8) (h3 : ∀ c ∈ cs, 97 ≤ c ∧ c ≤ 122) : isNm (ofL cs) = true := by
  have l : (ofL cs).length = cs.length := by simp [ofL, Str.length]
  unfold isNm
  rw [l, decide_eq_true h1, decide_eq_true h2]
  show (cs.toArray.toList.all fun c => decide (97 ≤ c) && decide (c ≤ 122)) = true
  rw [List.all_eq_true]
  intro c m
  have q := h3 c (by simpa using m)
  simp [q.1, q.2]
theorem isNm_inv {s : Str} (h : isNm s = true) : 1 ≤ s.cps.toList.length ∧ s.cps.toList.length ≤ 8 ∧ ∀ c ∈ s.cps.toList, 97 ≤ c ∧ c ≤ 122 := by
  unfold isNm at h
  simp only [Bool.and_eq_true, List.all_eq_true, decide_eq_true_eq] at h
  have l : s.cps.toList.length = s.length := by simp [Str.length]
  rw [l]
  exact ⟨h.1.1, h.1.2, h.2⟩
theorem str_ext {s t : Str} (h : s.cps.toList = t.cps.toList) : s = t := by
  obtain ⟨a⟩ := s
  obtain ⟨b⟩ := t
  have e : a = b := Array.ext' h
  rw [e]
theorem ofL_of (s : Str) : ofL s.cps.toList = s := str_ext (by simp [ofL])
theorem joinL_nil : ∀ cs : List Nat, TL.joinL [] (cs.map fun c => [c]) = cs
  | [] => rfl
  | [_] => rfl
  | c :: d :: r => by
    show [c] ++ ([] ++ TL.joinL [] ((d :: r).map fun c => [c])) = c :: d :: r
    rw [joinL_nil (d :: r)]
    rfl
theorem join_one (cs : List Nat) : Txt.join "" (cs.map one) = ofL cs := by
  refine str_ext ?_
  have e := TL.tl_join "" (cs.map one)
  rw [List.map_map] at e
  rw [TL.join_eq]
  exact e.trans (joinL_nil cs)
theorem cutS_to (n : Str) (k : Nat) : cutS n none (some (k : Int)) = ofL (n.cps.toList.take k) := by
  have l : n.cps.toList.length = n.length := by simp [Str.length]
  unfold cutS
  rw [HT.sIx_none, HT.sIx_nat, List.drop_zero, Nat.sub_zero]
  show (⟨(n.cps.toList.take (min k n.length)).toArray⟩ : Str) = ⟨(n.cps.toList.take k).toArray⟩
  rw [← l, ← List.take_eq_take_min]
theorem cutV_to (xs : List V) (k : Nat) : cutV xs none (some (k : Int)) = xs.take k := by
  unfold cutV
  rw [HT.sIx_none, HT.sIx_nat, List.drop_zero, Nat.sub_zero, ← List.take_eq_take_min]
theorem add_one {l : List Nat} {c : Nat} : ofL l ++ one c = ofL (l ++ [c]) := by
  refine str_ext ?_
  show (l.toArray ++ #[c]).toList = _
  simp [ofL]
/-- the word of the turn i: first w itself, then its stem with one letter after another -/
def wd (w : Str) (st : List Nat) (i : Nat) : Str := if i = 0 then w else ofL (st ++ [96 + i])
theorem wd_inj {w : Str} {st : List Nat} {i j : Nat} (hi : i ≠ 0) (hj : j ≠ 0) (h : wd w st i = wd w st j) : i = j := by
  unfold wd at h
  rw [if_neg hi, if_neg hj] at h
  have q : (st ++ [96 + i]).toArray = (st ++ [96 + j]).toArray := congrArg Str.cps h
  have q2 : st ++ [96 + i] = st ++ [96 + j] := by simpa using q
  have q3 := List.append_cancel_left q2
  injection q3 with q4 _
  omega
theorem wd_nm {w : Str} (h : isNm w = true) (i : Nat) (hi : i ≤ 26) : isNm (wd w (w.cps.toList.take 7) i) = true := by
  obtain ⟨h1, h2, h3⟩ := isNm_inv h
  unfold wd
  by_cases e : i = 0
  · rw [if_pos e]
    exact h
  · rw [if_neg e]
    refine isNm_ofL (by simp) ?_ fun c m => ?_
    · rw [List.length_append, List.length_take, List.length_singleton]
      omega
    · rcases List.mem_append.mp m with m | m
      · exact h3 c (List.mem_of_mem_take m)
      · rw [List.mem_singleton.mp m]
        omega
theorem wd_few {w : Str} {st : List Nat} {tk : List Str} {n : Nat} (h : ∀ j, j < n → wd w st j ∈ tk) : n ≤ tk.length + 1 := by
  have q := nodup_le (l := (List.range (n - 1)).map fun j => wd w st (j + 1)) (m := tk) ?_ ?_
  · rw [List.length_map, List.length_range] at q
    omega
  · refine List.Pairwise.map _ (R := (· ≠ ·)) (fun a b hab e => hab ?_) List.nodup_range
    have z := wd_inj (Nat.succ_ne_zero a) (Nat.succ_ne_zero b) e
    omega
  · intro x m
    obtain ⟨j, hj, rfl⟩ := List.mem_map.mp m
    have z := List.mem_range.mp hj
    exact h (j + 1) (by omega)
end Fm

/-! ## K01E -/
set_option Elab.async false
set_option maxRecDepth 100000
set_option maxHeartbeats 4000000
namespace Fm
open PySem L2
theorem pss_never {X : Cx} {b : List Stmt} : PSs X b tNever := ⟨fun _ _ _ _ _ _ h => False.elim h⟩
section
variable {P : Program} {w : World} {K : PySem.W.Frag} {mg : Str → Option Value} {base : Heap} {CS : Addr}
def spBag (K : PySem.W.Frag) : Sp := fun vs H Q _ => ∃ (a : Addr) (ns : List Int), vs = [.ref a] ∧ SqL K H a (ns.map V.int) ∧ ns.length ≤ 63 ∧ ∀ b H', Bag nil0 H' b → Q (.ref b) H'
abbrev s_l_bag : Stmt := topS 19
abbrev sc_l_bagN : List Str := ["_law_script"]
abbrev ps_l_bag : List Str := ["_law_script"]
theorem sc_l_bag : FnScope sc_l_bagN ps_l_bag (defScope s_l_bag) := ⟨rfl, rfl, rfl, by decide +kernel, rfl, by decide +kernel, by decide +kernel⟩
theorem ok_l_bag {f : Addr} {fd : FuncData} (F : Fun K "_law_bag" "_law_bag" s_l_bag f fd) (T : Txt K mg CS) : FnOk P w K mg base CX0 1 f fd ps_l_bag (spBag K) := by
  refine F.ok sc_l_bag (fun vs H Q E h => ?_) (fun cdv A outer s H vs Q E hr h => ?_)
  · obtain ⟨_, _, rfl, _⟩ := h
    rfl
  · obtain ⟨a, ns, rfl, hs, hl, k⟩ := h
    refine ⟨_, (pss_one (ps_ret (pe_lst (pa_cons (pe_callTy call_list_of (by rfl) T.n_list (by decide +kernel) (pa_cons (pe_slice sl_list (pv 0) po_none (po_some pe_int)) pa_nil)) (pa_cons pe_int (pa_cons pe_int (pa_cons pe_int (pa_cons pe_int (pa_cons pe_int pa_nil))))))))), ?_⟩
    refine ⟨_, rfl, _, rfl, a, _, rfl, hs, fun p hp => ?_⟩
    refine ⟨p, _, rfl, .inl (.inl (.inl upd_same)), fun c hc => ⟨by show 6 ≤ sizeLine; decide, fun b hb => ?_⟩⟩
    have ncb : c ≠ b := ne_of_none upd_same hb
    have e : cutV (ns.map V.int) none (some 63) = (ns.take 63).map V.int := by
      rw [List.map_take]
      exact cutV_to _ 63
    refine k b _ ⟨fun _ _ z => (by cases z), rfl, c, ns.take 63, 0, 0, 0, 0, 0, rfl, ncb, ?_, upd_same, by omega, by omega, by omega, by omega⟩
    rw [upd_ne ncb, upd_same, e]
def spName : Sp := fun vs H Q _ => ∃ (F : Hp) (b l : Addr) (tk : List Str), vs = [.ref b, .ref l] ∧ Bag F H b ∧ F l = some (.lst (tk.map V.str)) ∧ tk.length ≤ 20 ∧
  ∀ (n : Str) (H' : Hp), isNm n = true → n ∉ tk → Bag (upd F l (.lst ((tk ++ [n]).map V.str))) H' b → Q (.str n) H'
abbrev s_l_name : Stmt := topS 21
abbrev sc_l_nameN : List Str := ["_law_bag_here", "_law_taken", "_law_letters", "_law_word", "_law_k", "_law_stem"]
abbrev ps_l_name : List Str := ["_law_bag_here", "_law_taken"]
theorem sc_l_name : FnScope sc_l_nameN ps_l_name (defScope s_l_name) := ⟨rfl, rfl, rfl, by decide +kernel, rfl, by decide +kernel, by decide +kernel⟩
theorem ok_l_name {f : Addr} {fd : FuncData} (F : Fun K "_law_name" "_law_name" s_l_name f fd) (T : Txt K mg CS) (D_l_pick : Df P w K mg base "_law_pick" 1 ps_l_pick spPick) : FnOk P w K mg base CX0 2 f fd ps_l_name spName := by
  refine F.ok sc_l_name (fun vs H Q E h => ?_) (fun cdv A outer s H vs Q E hr h => ?_)
  · obtain ⟨_, _, _, _, rfl, _⟩ := h
    rfl
  · obtain ⟨F0, b, l, tk, rfl, B, hl, len, k⟩ := h
    refine ⟨_, (pss_cons (ps_set (i := 2) sc_l_name.nd rfl (Or.inr rfl) pe_str)
  (Evl.pss_cut (ps_if (pt_cmpR op_eq (pe_d D_l_pick (hr.mono (by decide)) (pa_cons (pv 0) (pa_cons pe_int pa_nil))) pe_int (nomark _))
    (pss_one (ps_set (i := 3) sc_l_name.nd rfl (Or.inl rfl) (pe_ix ix_list (pe_lst (pa_cons pe_str (pa_cons pe_str (pa_cons pe_str (pa_cons pe_str (pa_cons pe_str (pa_cons pe_str (pa_cons pe_str (pa_cons pe_str pa_nil))))))))) (pe_d D_l_pick (hr.mono (by decide)) (pa_cons (pv 0) (pa_cons pe_int pa_nil))) (fun _ _ => rfl))))
    (pss_one (ps_set (i := 3) sc_l_name.nd rfl (Or.inl rfl) (pe_join pe_str (pe_lc (own := [("_law_k", 4)]) (g := gName 4) (tt := tYes) (by rfl) sc_l_name.nd (pi_range1 (by rfl) T.n_range (pa_cons (pe_op op_add pe_int (pe_d D_l_pick (hr.mono (by decide)) (pa_cons (pv 0) (pa_cons pe_int pa_nil)))) pa_nil)) (blkOk_by (own := [("_law_k", 4)]) (N := sc_l_nameN) (sc := defScope s_l_name) (by decide +kernel)) (fun _ _ _ _ _ => pg_name (i := 4) sc_l_name.nd rfl (Or.inl rfl)) (fun _ _ _ _ _ => pts_nil) (fun _ _ _ _ _ => (pe_ix ix_str (pv 2) (pe_d D_l_pick (hr.mono (by decide)) (pa_cons (pv 0) (pa_cons pe_int pa_nil))) (fun _ _ => rfl))))))))
  (pss_cons (ps_set (i := 5) sc_l_name.nd rfl (Or.inl rfl) (pe_slice sl_str (pv 3) po_none (po_some pe_int)))
  (pss_cons (ps_for PassesOwn.never rfl (pi_range1 (by rfl) T.n_range (pa_cons pe_int pa_nil)) (pg_name (i := 4) sc_l_name.nd rfl (Or.inl rfl))
    (pss_cons (ps_if (pt_cmpR op_notIn_seq (pv 3) (pv 1) (by rfl))
      (pss_one ps_break)
      pss_nil)
    (pss_one (ps_set (i := 3) sc_l_name.nd rfl (Or.inl rfl) (pe_op op_add_str (pv 5) (pe_ix ix_str (pv 2) (pv 4) (fun _ _ => rfl)))))))
  (pss_cons (ps_expr (pe_bm PySem.F.plainAttrs_list PySem.F.slot_list_append PySem.F.type_list_append mt_append (pv 1) (pa_cons (pv 3) pa_nil)))
  (pss_one (ps_ret (pv 3)))))))), ?_⟩
    -- the word
    refine ⟨fun σ H' => ∃ (n : Str) (v : Option V), σ = [some (.ref b), some (.ref l), some (.str letters), some (.str n), v, none] ∧ isNm n = true ∧ Bag F0 H' b, ?_, ?_⟩
    · refine ⟨_, rfl, F0, b, 12, rfl, by decide, by decide, B, fun r H1 r0 r1 B1 => ⟨rfl, _, rfl, ifd (fun _ => ?_) fun _ => ?_⟩⟩
      · refine ⟨by show 8 ≤ sizeLine; decide, fun p hp => ?_⟩
        refine ⟨_, rfl, _, b, 8, rfl, by decide, by decide, B1.new _ hp, fun r H2 r0 r1 B2 => ?_⟩
        obtain ⟨v, hv, hm⟩ := at_mem (xs := (["end", "put", "scan", "none", "of", "same", "table", "block"] : List Str).map V.str) r0 r1
        obtain ⟨n, hn, rfl⟩ := List.mem_map.mp hm
        have good : ∀ n ∈ (["end", "put", "scan", "none", "of", "same", "table", "block"] : List Str), isNm n = true := by decide +kernel
        refine ⟨p, _, _, _, rfl, rfl, .inl (.inl (B2.fh _ _ upd_same)), hv, ?_⟩
        exact ⟨n, _, rfl, good n hn, bag_sub (fun a o e => by rw [upd_ne (ne_of_none (B1.fh _ _ e) hp)]; exact e) B2⟩
      · refine ⟨⟨_, rfl⟩, _, rfl, F0, b, 8, rfl, by decide, by decide, B1, fun r H2 r0 r1 B2 => ⟨_, _, rfl, rfl, _, rfl, by omega, by omega, fun D hD => ?_⟩⟩
        have fD : F0 D = none := B2.fh.free hD
        have nDl : D ≠ l := fun q => by rw [q, hl] at fD; cases fD
        have toF : ∀ o, Same F0 (upd F0 D o) := fun o a u e => by rw [upd_ne (ne_of_none e fD)]; exact e
        refine lc_range (lo := 0) (n := (1 + r).toNat) (fun i H' => ∃ cs : List Nat, cs.length = i ∧ (∀ c ∈ cs, 97 ≤ c ∧ c ≤ 122) ∧ Bag (upd F0 D (.lst ((cs.map one).map V.str))) H' b) ⟨[], rfl, fun _ m => (by cases m), B2.new _ hD⟩ ?_ ?_
        · rintro i H3 hi ⟨cs, rfl, hcs, B3⟩
          refine ⟨rfl, _, rfl, _, rfl, _, b, 26, rfl, by decide, by decide, B3, fun q H4 q0 q1 B4 => ?_⟩
          obtain ⟨c, hc, hm⟩ := at_mem (xs := letters.cps.toList) q0 (by rw [letters_list]; exact q1)
          rw [letters_list] at hm
          have hm2 := List.mem_range'_1.mp hm
          refine ⟨letters, _, c, rfl, rfl, by decide +kernel, hc, _, B4.fh _ _ upd_same, ?_, cs ++ [c], by simp, fun z m => ?_, ?_⟩
          · rw [List.length_map, List.length_map]
            exact Nat.lt_of_lt_of_le (show cs.length < 100 by omega) (by decide)
          · rcases List.mem_append.mp m with m | m
            · exact hcs z m
            · rw [List.mem_singleton.mp m]
              omega
          · have z := B4.put (.lst (((cs ++ [c]).map one).map V.str)) upd_same
            rw [upd_upd] at z
            have e : ((cs ++ [c]).map one).map V.str = (cs.map one).map V.str ++ [V.str (one c)] := by
              rw [List.map_append, List.map_append]
              rfl
            rw [e] at z ⊢
            exact z
        · rintro H3 ⟨cs, hl3, hcs, B3⟩
          refine ⟨_, D, cs.map one, rfl, rfl, .inl (.inl (.inl (B3.fh _ _ upd_same))), ?_, ?_⟩
          · have e : ((cs.map one).map (·.length)).sum = cs.length := by
              rw [List.map_map]
              clear hl3 hcs B3
              induction cs with
              | nil => rfl
              | cons c cs ih => rw [List.map_cons, List.sum_cons, ih, List.length_cons]; show 1 + cs.length = cs.length + 1; omega
            rw [e, List.length_map]
            show cs.length + cs.length * 0 ≤ 16777216
            omega
          · rw [join_one]
            exact ⟨ofL cs, _, rfl, isNm_ofL (by omega) (by omega) hcs, bag_sub (toF _) B3⟩
    · rintro σ H1 ⟨n, v, rfl, gn, B1⟩
      obtain ⟨n1, n2, n3⟩ := isNm_inv gn
      refine ⟨_, rfl, _, rfl, n, rfl, Nat.le_trans (isNm_len gn) (by decide), ?_⟩
      have cut : cutS n none (some 7) = ofL (n.cps.toList.take 7) := cutS_to n 7
      rw [cut]
      have hl1 := B1.fh _ _ hl
      refine ⟨26, rfl, by decide, by decide, for_range (lo := 0) (n := 26) (fun i σ H' => ∃ v, σ = [some (.ref b), some (.ref l), some (.str letters), some (.str (wd n (n.cps.toList.take 7) i)), v, some (.str (ofL (n.cps.toList.take 7)))] ∧ H' = H1 ∧ ∀ j, j < i → wd n (n.cps.toList.take 7) j ∈ tk) ⟨_, rfl, rfl, fun j z => absurd z (Nat.not_lt_zero _)⟩ ?_ ?_⟩
      · rintro i σ H' hi ⟨v, rfl, rfl, all⟩
        refine ⟨_, rfl, _, rfl, l, _, rfl, .inl (.inl (.inl hl1)), rfl, flat_strs _, _, rfl, ?_⟩
        rw [inV_str]
        refine ifn (fun new => ?_) fun old => ?_
        · refine ⟨_, rfl, .inl ⟨rfl, _, .inl (.inl hl1)⟩, _, rfl, l, _, _, rfl, rfl, hl1, by rw [List.length_map]; exact Nat.lt_of_le_of_lt len (by decide), _, rfl, ?_⟩
          refine k _ _ (wd_nm gn i (by omega)) new ?_
          have z := B1.put (.lst ((tk ++ [wd n (n.cps.toList.take 7) i]).map V.str)) hl
          rw [show (tk ++ [wd n (n.cps.toList.take 7) i]).map V.str = tk.map V.str ++ [V.str (wd n (n.cps.toList.take 7) i)] from by rw [List.map_append]; rfl] at z ⊢
          exact z
        · obtain ⟨c, hc, hm⟩ := at_mem (xs := letters.cps.toList) (r := 0 + (i : Int)) (by omega) (by rw [letters_list, List.length_range']; omega)
          have ec : c = 97 + i := by
            rw [letters_list, Int.zero_add] at hc
            have z := atI_nat (xs := List.range' 97 26) (j := i) (v := 97 + i) (by rw [List.getElem?_range' (by omega)]; simp)
            rw [hc] at z
            exact Option.some.inj z
          refine ⟨_, rfl, _, rfl, _, rfl, letters, _, c, rfl, rfl, by decide +kernel, hc, _, _, rfl, rfl, ?_, some (.int (0 + (i : Nat))), ?_, rfl, fun j hj => ?_⟩
          · have l7 : (ofL (n.cps.toList.take 7)).length ≤ 7 := by
              simp [ofL, Str.length]
              omega
            exact Nat.le_trans (Nat.add_le_add l7 (Nat.le_refl 1)) (show 8 ≤ sizeLine by decide)
          · have e : wd n (n.cps.toList.take 7) (i + 1) = ofL (n.cps.toList.take 7 ++ [97 + i]) := by
              unfold wd
              rw [if_neg (Nat.succ_ne_zero i), show 96 + (i + 1) = 97 + i by omega]
            rw [add_one, ec, e]
            rfl
          · rcases Nat.lt_succ_iff_lt_or_eq.mp hj with z | rfl
            · exact all j z
            · exact old
      · rintro σ H' ⟨v, rfl, rfl, all⟩
        exact absurd (wd_few (n := 26) all) (by omega)
end
end Fm

/-! ## K01F -/
set_option Elab.async false
set_option maxRecDepth 100000
set_option maxHeartbeats 4000000
namespace Fm
open PySem L2
theorem upd_none {F : Hp} {a b : Addr} {o : HO} (h : F a = none) (n : a ≠ b) : upd F b o a = none := by rw [upd_ne n]; exact h
theorem upd_comm {F : Hp} {a b : Addr} {x y : HO} (n : a ≠ b) : upd (upd F a x) b y = upd (upd F b y) a x := by
  funext c
  unfold upd
  by_cases h1 : c = b
  · subst h1
    rw [if_pos rfl, if_neg (Ne.symm n), if_pos rfl]
  · rw [if_neg h1]
    by_cases h2 : c = a
    · rw [if_pos h2, if_pos h2]
    · rw [if_neg h2, if_neg h2, if_neg h1]
theorem nodup_snoc {α : Type} {l : List α} {x : α} (h : l.Nodup) (n : x ∉ l) : (l ++ [x]).Nodup := by
  refine List.pairwise_append.mpr ⟨h, .cons (fun _ m => (by cases m)) .nil, fun a ha b hb e => ?_⟩
  rw [List.mem_singleton.mp hb] at e
  exact n (by rw [← e]; exact ha)
/-- a list of tables stands at p -/
def TbAt (K : PySem.W.Frag) (F : Hp) (p : Addr) (ts : List Tab) : Prop := ∃ xs, F p = some (.lst xs) ∧ DpAll K F xs (ts.map (tabD false))
theorem TbAt.same {K : PySem.W.Frag} {F F' : Hp} {p : Addr} {ts : List Tab} (h : TbAt K F p ts) (s : Same F F') : TbAt K F' p ts := by
  obtain ⟨xs, h1, h2⟩ := h
  exact ⟨xs, s _ _ h1, dpA_mono s _ _ h2⟩
section
variable {P : Program} {w : World} {K : PySem.W.Frag} {mg : Str → Option Value} {base : Heap} {CS : Addr}
def spTables (K : PySem.W.Frag) : Sp := fun vs H Q _ => ∃ (F : Hp) (b : Addr), vs = [.ref b] ∧ Bag F H b ∧ ∀ (p : Addr) (F' H' : Hp) (ts : List Tab), Bag F' H' b → Same F F' → TsOk ts → TbAt K F' p ts → Q (.ref p) H'
abbrev s_l_tables : Stmt := topS 22
abbrev sc_l_tablesN : List Str := ["_law_bag_here", "_law_taken", "_law_tables_here", "_law_k", "_law_name_here", "_law_fields", "_law_j"]
abbrev ps_l_tables : List Str := ["_law_bag_here"]
theorem sc_l_tables : FnScope sc_l_tablesN ps_l_tables (defScope s_l_tables) := ⟨rfl, rfl, rfl, by decide +kernel, rfl, by decide +kernel, by decide +kernel⟩
theorem ok_l_tables {f : Addr} {fd : FuncData} (F : Fun K "_law_tables" "_law_tables" s_l_tables f fd) (T : Txt K mg CS) (D_l_pick : Df P w K mg base "_law_pick" 1 ps_l_pick spPick) (D_l_name : Df P w K mg base "_law_name" 2 ps_l_name spName) :
    FnOk P w K mg base CX0 3 f fd ps_l_tables (spTables K) := by
  refine F.ok sc_l_tables (fun vs H Q E h => ?_) (fun cdv A outer s H vs Q E hr h => ?_)
  · obtain ⟨_, _, rfl, _⟩ := h
    rfl
  · obtain ⟨F0, b, rfl, B, k⟩ := h
    refine ⟨_, (pss_cons (ps_set (i := 1) sc_l_tables.nd rfl (Or.inl rfl) (pe_lst pa_nil))
  (pss_cons (ps_set (i := 2) sc_l_tables.nd rfl (Or.inl rfl) (pe_lst pa_nil))
  (pss_cons (ps_for PassesOwn.never rfl (pi_range1 (by rfl) T.n_range (pa_cons (pe_ix ix_list (pe_lst (pa_cons pe_int (pa_cons pe_int (pa_cons pe_int (pa_cons pe_int (pa_cons pe_int pa_nil)))))) (pe_d D_l_pick (hr.mono (by decide)) (pa_cons (pv 0) (pa_cons pe_int pa_nil))) (fun _ _ => rfl)) pa_nil)) (pg_name (i := 3) sc_l_tables.nd rfl (Or.inl rfl))
    (pss_cons (ps_set (i := 4) sc_l_tables.nd rfl (Or.inl rfl) (pe_d D_l_name (hr.mono (by decide)) (pa_cons (pv 0) (pa_cons (pv 1) pa_nil))))
    (pss_cons (ps_set (i := 5) sc_l_tables.nd rfl (Or.inl rfl) (pe_lst pa_nil))
    (pss_cons (ps_for PassesOwn.never rfl (pi_range1 (by rfl) T.n_range (pa_cons (pe_op op_add pe_int (pe_d D_l_pick (hr.mono (by decide)) (pa_cons (pv 0) (pa_cons pe_int pa_nil)))) pa_nil)) (pg_name (i := 6) sc_l_tables.nd rfl (Or.inl rfl))
      (pss_one (ps_expr (pe_d D_l_name (hr.mono (by decide)) (pa_cons (pv 0) (pa_cons (pv 5) pa_nil))))))
    (pss_one (ps_expr (pe_bm PySem.F.plainAttrs_list PySem.F.slot_list_append PySem.F.type_list_append mt_append (pv 2) (pa_cons (pe_tup (pa_cons (pv 4) (pa_cons (pe_callTy call_tuple_of (by rfl) T.n_tuple (by decide +kernel) (pa_cons (pv 5) pa_nil)) pa_nil))) pa_nil))))))))
  (pss_one (ps_ret (pv 2)))))), ?_⟩
    refine ⟨Nat.zero_le _, fun t ht => ⟨Nat.zero_le _, fun p hp => ?_⟩⟩
    have ntp : t ≠ p := ne_of_none upd_same hp
    have fp : F0 p = none := B.fh.free (by rw [upd_ne (Ne.symm ntp)] at hp; exact hp)
    have ft : F0 t = none := B.fh.free ht
    have B2 := (B.new (.lst []) ht).new (.lst []) hp
    refine ⟨(by show 5 ≤ sizeLine; decide), fun m hm => ⟨_, rfl, _, b, 5, rfl, by decide, by decide, B2.new _ hm, fun r H1 r0 r1 B3 => ?_⟩⟩
    obtain ⟨v, hv, hvm⟩ := at_mem (xs := ([2, 1, 2, 3, 5] : List Int).map V.int) r0 r1
    obtain ⟨z, hz, rfl⟩ := List.mem_map.mp hvm
    have z15 : 1 ≤ z ∧ z ≤ 5 := by
      have all : ∀ z ∈ ([2, 1, 2, 3, 5] : List Int), 1 ≤ z ∧ z ≤ 5 := by decide
      exact all z hz
    have B4 := bag_sub (F := upd (upd F0 t (.lst [])) p (.lst [])) (fun a o e => by rw [upd_ne (ne_of_none (B2.fh _ _ e) hm)]; exact e) B3
    refine ⟨m, _, _, _, rfl, rfl, .inl (.inl (B3.fh _ _ upd_same)), hv, z, rfl, by omega, by omega, ?_⟩
    refine for_range (lo := 0) (n := z.toNat) (fun i σ H' => ∃ (G : Hp) (ts : List Tab) (xs : List V) (v3 v4 v5 v6 : Option V), σ = [some (.ref b), some (.ref t), some (.ref p), v3, v4, v5, v6] ∧ Same F0 G ∧ G t = none ∧ G p = none ∧
      Bag (upd (upd G t (.lst ((ts.map (·.1)).map V.str))) p (.lst xs)) H' b ∧ DpAll K G xs (ts.map (tabD false)) ∧ ts.length = i ∧ (∀ u ∈ ts, TOk u) ∧ (ts.map (·.1)).Nodup) ?_ ?_ ?_
    · exact ⟨F0, [], [], _, _, _, _, rfl, Same.refl _, ft, fp, B4, .nil, rfl, fun _ m => (by cases m), .nil⟩
    · rintro i σ H2 hi ⟨G, ts, xs, v3, v4, v5, v6, rfl, sG, gt, gp, B5, dx, len, ok, nd⟩
      have lx : xs.length = i := by rw [dpA_len dx, List.length_map]; exact len
      -- the table's name
      refine ⟨_, rfl, _, rfl, _, b, t, ts.map (·.1), rfl, B5, by rw [upd_ne ntp, upd_same], by rw [List.length_map]; omega, fun n H3 gn nn B6 => ?_⟩
      rw [upd_comm (Ne.symm ntp), upd_upd] at B6
      -- its fields
      refine ⟨Nat.zero_le _, fun q hq => ?_⟩
      have B7 := B6.new (.lst []) hq
      have q0 := B6.fh.free hq
      have nqt : q ≠ t := fun e => by rw [e, upd_ne ntp, upd_same] at q0; cases q0
      have nqp : q ≠ p := fun e => by rw [e, upd_same] at q0; cases q0
      have gq : G q = none := by rw [upd_ne nqp, upd_ne nqt] at q0; exact q0
      refine ⟨_, rfl, _, b, 4, rfl, by decide, by decide, B7, fun r H4 r0 r1 B8 => ⟨_, _, rfl, rfl, _, rfl, by omega, by omega, ?_⟩⟩
      refine for_range (lo := 0) (n := (1 + r).toNat) (fun j σ H' => ∃ (fs : List Str) (v6 : Option V), σ = [some (.ref b), some (.ref t), some (.ref p), some (.int (0 + (i : Nat))), some (.str n), some (.ref q), v6] ∧ fs.length = j ∧ (∀ f ∈ fs, isNm f = true) ∧ fs.Nodup ∧
        Bag (upd (upd (upd G t (.lst ((ts.map (·.1) ++ [n]).map V.str))) p (.lst xs)) q (.lst (fs.map V.str))) H' b) ?_ ?_ ?_
      · exact ⟨[], _, rfl, rfl, fun _ m => (by cases m), .nil, B8⟩
      · rintro j σ H5 hj ⟨fs, v6, rfl, lf, gf, nf, B9⟩
        refine ⟨_, rfl, _, rfl, _, b, q, fs, rfl, B9, upd_same, by omega, fun f H6 gf2 nf2 B10 => ?_⟩
        rw [upd_upd] at B10
        refine ⟨fs ++ [f], _, rfl, by rw [List.length_append, lf]; rfl, fun g m => ?_, ?_, B10⟩
        · rcases List.mem_append.mp m with m | m
          · exact gf g m
          · rw [List.mem_singleton.mp m]
            exact gf2
        · exact nodup_snoc nf nf2
      · rintro σ H5 ⟨fs, v6, rfl, lf, gf, nf, B9⟩
        -- the table
        have hq5 := B9.fh _ _ upd_same
        have hp5 : H5 p = some (.lst xs) := B9.fh _ _ (by rw [upd_ne (Ne.symm nqp), upd_same])
        refine ⟨_, rfl, .inl ⟨rfl, _, .inl (.inl hp5)⟩, _, rfl, _, rfl, q, _, rfl, .inl ⟨.inl (.inl hq5), fun u hu => ⟨(by show 2 ≤ sizeLine; decide), fun e he => ?_⟩⟩⟩
        have B11 := (B9.new (.tup (fs.map V.str)) hu).new (.tup [.str n, .ref u]) he
        have u0 := B9.fh.free hu
        have nup : u ≠ p := fun z => by rw [z] at u0; rw [upd_ne (Ne.symm nqp), upd_same] at u0; cases u0
        have nut : u ≠ t := fun z => by rw [z] at u0; rw [upd_ne (Ne.symm nqt), upd_ne ntp, upd_same] at u0; cases u0
        have nuq : u ≠ q := fun z => by rw [z] at u0; rw [upd_same] at u0; cases u0
        have gu : G u = none := by rw [upd_ne nuq, upd_ne nup, upd_ne nut] at u0; exact u0
        have hu2 : (upd H5 u (.tup (fs.map V.str))) u = some (.tup (fs.map V.str)) := upd_same
        have neu : e ≠ u := fun z => by rw [z, hu2] at he; cases he
        have he5 : H5 e = none := by rw [upd_ne neu] at he; exact he
        have e0 := B9.fh.free he5
        have nep : e ≠ p := fun z => by rw [z] at e0; rw [upd_ne (Ne.symm nqp), upd_same] at e0; cases e0
        have net : e ≠ t := fun z => by rw [z] at e0; rw [upd_ne (Ne.symm nqt), upd_ne ntp, upd_same] at e0; cases e0
        have neq : e ≠ q := fun z => by rw [z] at e0; rw [upd_same] at e0; cases e0
        have ge : G e = none := by rw [upd_ne neq, upd_ne nep, upd_ne net] at e0; exact e0
        refine ⟨p, _, _, rfl, rfl, by rw [upd_ne (Ne.symm nep), upd_ne (Ne.symm nup)]; exact hp5, Nat.lt_of_le_of_lt (show xs.length ≤ 100 by omega) (by decide), ?_⟩
        have B12 := B11.put (.lst (xs ++ [.ref e])) (o := .lst xs) (l := p) (by rw [upd_ne (Ne.symm nep), upd_ne (Ne.symm nup), upd_ne (Ne.symm nqp), upd_same])
        rw [upd_comm nep, upd_comm nup, upd_comm nqp, upd_upd, upd_comm (a := p) (b := q) (Ne.symm nqp), upd_comm (a := p) (b := u) (Ne.symm nup), upd_comm (a := p) (b := e) (Ne.symm nep),
          upd_comm (a := t) (b := q) (Ne.symm nqt), upd_comm (a := t) (b := u) (Ne.symm nut), upd_comm (a := t) (b := e) (Ne.symm net)] at B12
        have sG2 : Same G (upd (upd (upd G q (.lst (fs.map V.str))) u (.tup (fs.map V.str))) e (.tup [.str n, .ref u])) := fun a o z => by
          rw [upd_ne (ne_of_none z ge), upd_ne (ne_of_none z gu), upd_ne (ne_of_none z gq)]
          exact z
        refine ⟨_, ts ++ [(n, fs)], xs ++ [.ref e], _, _, _, _, rfl, sG.trans sG2, upd_none (upd_none (upd_none gt (Ne.symm nqt)) (Ne.symm nut)) (Ne.symm net), upd_none (upd_none (upd_none gp (Ne.symm nqp)) (Ne.symm nup)) (Ne.symm nep), ?_, ?_, ?_, ?_, ?_⟩
        · rw [List.map_append]
          exact B12
        · rw [List.map_append]
          exact dpA_snoc (dpA_mono sG2 _ _ dx) (.tup (.inl (.inl upd_same)) (.cons (.str n) (.cons (.tup (.inl (.inl (by rw [upd_ne (Ne.symm neu), upd_same]))) (dpA_strs fs)) .nil)))
        · rw [List.length_append, len]
          rfl
        · intro w hw
          rcases List.mem_append.mp hw with hw | hw
          · exact ok w hw
          · rw [List.mem_singleton.mp hw]
            exact ⟨gn, (show 1 ≤ fs.length by omega), (show fs.length ≤ 4 by omega), gf, nf⟩
        · rw [List.map_append]
          exact nodup_snoc nd nn
    · rintro σ H2 ⟨G, ts, xs, v3, v4, v5, v6, rfl, sG, gt, gp, B5, dx, len, ok, nd⟩
      refine ⟨_, rfl, ?_⟩
      refine k p _ H2 ts B5 (fun a o e => ?_) ⟨by omega, by omega, ok, nd⟩ ⟨xs, upd_same, dpA_mono (fun a o e => ?_) _ _ dx⟩
      · rw [upd_ne (ne_of_none e fp), upd_ne (ne_of_none e ft)]
        exact sG a o e
      · rw [upd_ne (ne_of_none e gp), upd_ne (ne_of_none e gt)]
        exact e
end
end Fm

/-! ## K01G -/
set_option Elab.async false
set_option maxRecDepth 100000
set_option maxHeartbeats 4000000
namespace Fm
open PySem L2
section
variable {K : PySem.W.Frag}
/-- a comprehension that makes new data of each item -/
theorem lc_fresh {J : It} {G : Hp → Prop} {xs : List V} {ds : List PyData} {H : Hp} {D : Addr} {σ : St} {vs : List Nat} {j : Nat} {te : TE} {Qd : Hp → Prop} (f : PyData → PyData) (wk : Walk J xs.length G (YAt xs)) (gm : ∀ H', Same H H' → G H') (hD : H D = none) (ha : DpAll K H xs ds)
    (hl : ds.length ≤ 100000) (hw : ∀ x, wipe ((wipe σ vs).set j (some x)) vs = wipe σ vs)
    (he : ∀ x c H' (Q : VK), c ∈ ds → Dp K H' x c → (∀ v' H2 N, Same H' H2 → Fresh H' H2 N → Dp K N v' (f c) → Q v' H2) → te ((wipe σ vs).set j (some x)) H' Q)
    (hd : ∀ H2 ys N, Same H H2 → H2 D = some (.lst ys) → Fresh H H2 N → N D = none → DpAll K N ys (ds.map f) → Qd H2) :
    ∃ W : Nat → Nat → Hp → Prop, (∃ m, W 0 m (upd H D (.lst []))) ∧ ∀ i m H, W i m H →
      (J.stop i H ∧ Qd H) ∨ (J.go i H ∧ ∃ Nx : Hp → Prop, (∀ H', Nx H' → ∃ m', m' < m ∧ W (i + 1) m' H') ∧ ∀ x H', J.yld i H x H' → (gName j) x (wipe σ vs) H' fun σ2 H2 => wipe σ2 vs = wipe σ vs ∧ tYes σ2 H2 fun b H3 =>
        if b = true then te σ2 H3 fun y H4 => ∃ acc, H4 D = some (.lst acc) ∧ acc.length < sizeLine ∧ Nx (upd H4 D (.lst (acc ++ [y]))) else Nx H3) := by
  have len := dpA_len ha
  refine lc_it wk (fun i H' => Same H H' ∧ ∃ ys N, H' D = some (.lst ys) ∧ ys.length ≤ 100000 ∧ i ≤ xs.length ∧ Fresh H H' N ∧ N D = none ∧ DpAll K N ys ((ds.take i).map f)) ⟨same_new _ hD, [], nil0, upd_same, Nat.zero_le _, Nat.zero_le _, fresh_nil, rfl, .nil⟩ (fun i H' _ z => gm H' z.1) ?_ ?_
  · rintro i x H2 H3 hi ⟨s2, ys, N, d2, yl, il, fr, nD, da⟩ ⟨rfl, hx⟩
    obtain ⟨c, hc, hxc⟩ := dpA_at ha hx
    refine ⟨hw x, ?_⟩
    show te _ _ _
    refine he x c H3 _ (List.mem_of_getElem? hc) (dp_mono s2 c x hxc) fun v' H4 M s4 fm dm => ?_
    have n4 : M D = none := by
      cases q : M D with
      | none => rfl
      | some o =>
        have z := (fm D o q).1
        rw [d2] at z
        cases z
    have fu := fresh_uni fr fm s2 s4
    have yi : ys.length = i := by
      have q := dpA_len da
      rw [List.length_map, List.length_take] at q
      omega
    refine ⟨ys, s4 _ _ d2, Nat.lt_of_le_of_lt yl (by decide), same_put (s2.trans s4) _ hD, ys ++ [v'], uni N M, upd_same, ?_, hi, ?_, ?_, ?_⟩
    · rw [List.length_append, List.length_singleton, yi]
      omega
    · intro b o q
      have nb : b ≠ D := fun z => by
        rw [z] at q
        rcases uni_or q with q | ⟨_, q⟩
        · rw [nD] at q; cases q
        · rw [n4] at q; cases q
      rw [upd_ne nb]
      exact fu b o q
    · show uni N M D = none
      unfold uni
      rw [nD]
      exact n4
    · rw [map_take _ hc]
      exact dpA_snoc (dpA_mono same_uni _ _ da) (dp_mono (same_uni2 fr fm) _ _ dm)
  · rintro H2 ⟨s2, ys, N, d2, yl, il, fr, nD, da⟩
    rw [len, List.take_length] at da
    exact hd H2 ys N s2 d2 fr nD da
theorem lst_ty {H : Hp} {a : Addr} {xs : List V} (h : SqL K H a xs) : TyX K H (.ref a) (.type "list") := by
  rcases h with (h | ⟨o, h⟩) | ⟨o, its, n, h, hc, _⟩
  · exact .base (.lst h)
  · exact .base (.frz h)
  · exact .kList h hc
theorem tuT_ty {H : Hp} {a : Addr} {xs : List V} (h : SqT K H a xs) : TyX K H (.ref a) (.type "tuple") := by
  rcases h with (h | ⟨o, h⟩) | ⟨o, its, n, h, hc, _⟩
  · exact .base (.tup h)
  · exact .fTuple h
  · exact .kTuple h hc
theorem kB {a b : String} {r : Bool} (h : kitB a b = some r) : PySem.W.kitOne K (.type a) (.type b) = some r := kit_ty h
theorem flat_all {v : V} (h : flatV v = true) : ∃ n b, (∀ H : Hp, TyX K H v (.type n)) ∧ PySem.W.kitAny K (.type n) [.type "list", .type "tuple"] = some false ∧ PySem.W.kitOne K (.type n) (.type "list") = some false ∧ PySem.W.kitOne K (.type n) (.type "tuple") = some false ∧
    PySem.W.kitOne K (.type n) (.type "dict") = some false ∧ PySem.W.kitOne K (.type n) (.type "bool") = some b ∧ scal v v = true := by
  have two : ∀ n, kitB n "list" = some false → kitB n "tuple" = some false → PySem.W.kitAny K (.type n) [.type "list", .type "tuple"] = some false := fun n a b =>
    kitAny_cons (b := false) (kit_ty a) (fun _ => kitAny_cons (b := false) (kit_ty b) (fun _ => rfl) fun z => nomatch z) fun z => nomatch z
  cases v with
  | non => exact ⟨_, false, fun _ => .base .non, two _ (by decide +kernel) (by decide +kernel), kB (by decide +kernel), kB (by decide +kernel), kB (by decide +kernel), kB (by decide +kernel), rfl⟩
  | bl b => exact ⟨_, true, fun _ => .base (.bl b), two _ (by decide +kernel) (by decide +kernel), kB (by decide +kernel), kB (by decide +kernel), kB (by decide +kernel), kB (by decide +kernel), rfl⟩
  | int i => exact ⟨_, false, fun _ => .base (.int i), two _ (by decide +kernel) (by decide +kernel), kB (by decide +kernel), kB (by decide +kernel), kB (by decide +kernel), kB (by decide +kernel), rfl⟩
  | str s => exact ⟨_, false, fun _ => .base (.str s), two _ (by decide +kernel) (by decide +kernel), kB (by decide +kernel), kB (by decide +kernel), kB (by decide +kernel), kB (by decide +kernel), rfl⟩
  | byt b => cases h
  | flt b => cases h
  | ref a => cases h
  | ty n => cases h
theorem ix_sq {H : Hp} {a : Addr} {xs : List V} {i : Int} {v : V} {Q : VK} (h : Sq K H a xs) (hv : atI xs i = some v) (q : Q v H) : rIx K (.ref a) (.int i) H Q := by
  rcases h with h | h
  · exact .inl ⟨a, xs, i, v, rfl, rfl, h, hv, q⟩
  · exact .inr (.inl ⟨a, xs, i, v, rfl, rfl, h, hv, q⟩)
theorem dp_flat {H H' : Hp} {d : PyData} {v w : V} (hf : flatV v = true) (h1 : Dp K H v d) (h2 : Dp K H' w d) : w = v := by
  cases h1 <;> first | (cases h2; rfl) | cases hf
end
section
variable {P : Program} {w : World} {K : PySem.W.Frag} {mg : Str → Option Value} {base : Heap} {CS : Addr}
def spCopied (K : PySem.W.Frag) (n : Nat) : Sp := fun vs H Q _ => ∃ (v : V) (d : PyData), vs = [v] ∧ Dp K H v d ∧ Dn n d ∧ ∀ v' H' N, Same H H' → Fresh H H' N → Dp K N v' d → Q v' H'
abbrev s_l_copied : Stmt := topS 23
abbrev sc_l_copiedN : List Str := ["_law_thing", "_law_part", "_law_found", "_law_key"]
abbrev ps_l_copied : List Str := ["_law_thing"]
theorem sc_l_copied : FnScope sc_l_copiedN ps_l_copied (defScope s_l_copied) := ⟨rfl, rfl, rfl, by decide +kernel, rfl, by decide +kernel, by decide +kernel⟩
theorem ok_l_copied {f : Addr} {fd : FuncData} (F : Fun K "_law_copied" "_law_copied" s_l_copied f fd) (T : Txt K mg CS) (hm : mg "_law_copied" = some (.ref f)) (hb : Binds K fd ps_l_copied []) : ∀ n, FnOk P w K mg base CX0 n f fd ps_l_copied (spCopied K n)
  | 0 => fn_no fun vs H Q E h => by
    obtain ⟨_, d, _, _, hd, _⟩ := h
    cases hd
  | n + 1 => by
    have D_l_copied : Df P w K mg base "_law_copied" n ps_l_copied (spCopied K n) := ⟨f, fd, ok_l_copied F T hm hb n, hm, F.kp, hb⟩
    refine F.ok sc_l_copied (fun vs H Q E h => ?_) (fun cdv A outer s H vs Q E hr h => ?_)
    · obtain ⟨_, _, rfl, _⟩ := h
      rfl
    · obtain ⟨v, d, rfl, hv, hd, k⟩ := h
      refine ⟨_, (pss_cons (ps_if (pt_val (pe_callB call_isi (by rfl) T.n_isinstance (by decide +kernel) (pa_cons (pv 0) (pa_cons (pe_bltn (v := .ty "tuple") (by rfl) T.n_tuple (by decide +kernel) rfl) pa_nil))))
    (pss_one (ps_ret (pe_callTy call_tuple_of (by rfl) T.n_tuple (by decide +kernel) (pa_cons (pe_lc (own := [("_law_part", 1)]) (g := gName 1) (tt := tYes) (by rfl) sc_l_copied.nd (pi_any (pv 0)) (blkOk_by (own := [("_law_part", 1)]) (N := sc_l_copiedN) (sc := defScope s_l_copied) (by decide +kernel)) (fun _ _ _ _ _ => pg_name (i := 1) sc_l_copied.nd rfl (Or.inl rfl)) (fun _ _ _ _ _ => pts_nil) (fun _ _ _ _ _ => (pe_d D_l_copied hr (pa_cons (pv 1) pa_nil)))) pa_nil))))
    pss_nil)
  (pss_cons (ps_if (pt_val (pe_callB call_isi (by rfl) T.n_isinstance (by decide +kernel) (pa_cons (pv 0) (pa_cons (pe_bltn (v := .ty "list") (by rfl) T.n_list (by decide +kernel) rfl) pa_nil))))
    (pss_one (ps_ret (pe_lc (own := [("_law_part", 1)]) (g := gName 1) (tt := tYes) (by rfl) sc_l_copied.nd (pi_any (pv 0)) (blkOk_by (own := [("_law_part", 1)]) (N := sc_l_copiedN) (sc := defScope s_l_copied) (by decide +kernel)) (fun _ _ _ _ _ => pg_name (i := 1) sc_l_copied.nd rfl (Or.inl rfl)) (fun _ _ _ _ _ => pts_nil) (fun _ _ _ _ _ => (pe_d D_l_copied hr (pa_cons (pv 1) pa_nil))))))
    pss_nil)
  (pss_cons (ps_if (pt_val (pe_callB call_isi (by rfl) T.n_isinstance (by decide +kernel) (pa_cons (pv 0) (pa_cons (pe_bltn (v := .ty "dict") (by rfl) T.n_dict (by decide +kernel) rfl) pa_nil)))) pss_never pss_nil)
  (pss_one (ps_ret (pv 0)))))), ?_⟩
      rcases dp_ty hv hd with ⟨a, xs, ds, rfl, hs, ha, hn, hl, ⟨rfl, hL⟩ | ⟨rfl, hT⟩⟩ | ⟨hf, e, hv2⟩
      · refine ⟨_, rfl, _, _, _, _, _, rfl, .ty _, lst_ty hL, kB (r := false) (by decide +kernel), _, rfl, iteF ?_⟩
        refine ⟨_, rfl, _, _, _, _, _, rfl, .ty _, lst_ty hL, kB (r := true) (by decide +kernel), _, rfl, iteT ?_⟩
        refine ⟨_, rfl, a, xs, rfl, any_of (K := K) hs (Same.refl _) fun J G gm wk => (fun D hD => ?_)⟩
        refine lc_fresh id wk gm hD ha hl (fun _ => rfl) (fun x c H' Q' hc hx kk => ⟨_, rfl, x, c, rfl, hx, hn c hc, kk⟩) fun H2 ys N s2 d2 fr nD da => ?_
        rw [List.map_id] at da
        refine k _ H2 (upd N D (.lst ys)) s2 (fun b o q => ?_) (.lst (.inl (.inl upd_same)) (dpA_mono (fun b o q => ?_) _ _ da))
        · by_cases e : b = D
          · rw [e, upd_same] at q
            cases q
            rw [e]
            exact ⟨hD, d2⟩
          · rw [upd_ne e] at q
            exact fr b o q
        · rw [upd_ne (ne_of_none q nD)]
          exact q
      · refine ⟨_, rfl, _, _, _, _, _, rfl, .ty _, tuT_ty hT, kB (r := true) (by decide +kernel), _, rfl, iteT ?_⟩
        refine ⟨_, rfl, a, xs, rfl, any_of (K := K) hs (Same.refl _) fun J G gm wk => (fun D hD => ?_)⟩
        refine lc_fresh id wk gm hD ha hl (fun _ => rfl) (fun x c H' Q' hc hx kk => ⟨_, rfl, x, c, rfl, hx, hn c hc, kk⟩) fun H2 ys N s2 d2 fr nD da => ?_
        rw [List.map_id] at da
        refine ⟨D, ys, rfl, .inl ⟨.inl (.inl d2), fun l hl2 => ?_⟩⟩
        exact k _ _ (upd N l (.tup ys)) (same_upd1 s2 _ hl2) (fresh_new fr s2 _ hl2) (.tup (.inl (.inl upd_same)) (dpA_mono (same_freshNew fr _ hl2) _ _ da))
      · obtain ⟨n, b, ty, _, k1, k2, k3, _⟩ := flat_all (K := K) hf
        refine ⟨_, rfl, _, _, _, _, _, rfl, .ty _, ty _, k2, _, rfl, iteF ?_⟩
        refine ⟨_, rfl, _, _, _, _, _, rfl, .ty _, ty _, k1, _, rfl, iteF ?_⟩
        refine ⟨_, rfl, _, _, _, _, _, rfl, .ty _, ty _, k3, _, rfl, iteF ?_⟩
        exact ⟨_, rfl, k _ _ nil0 (Same.refl _) fresh_nil (hv2 _)⟩
def spAlike (K : PySem.W.Frag) (n : Nat) : Sp := fun vs H Q _ => ∃ (v u : V) (d : PyData), vs = [v, u] ∧ Dp K H v d ∧ Dp K H u d ∧ Dn n d ∧ ∀ H', Same H H' → Q (.bl true) H'
abbrev s_l_alike : Stmt := topS 24
abbrev sc_l_alikeN : List Str := ["_law_one", "_law_other", "_law_k", "_law_key"]
abbrev ps_l_alike : List Str := ["_law_one", "_law_other"]
theorem sc_l_alike : FnScope sc_l_alikeN ps_l_alike (defScope s_l_alike) := ⟨rfl, rfl, rfl, by decide +kernel, rfl, by decide +kernel, by decide +kernel⟩
theorem ok_l_alike {f : Addr} {fd : FuncData} (F : Fun K "_law_alike" "_law_alike" s_l_alike f fd) (T : Txt K mg CS) (hm : mg "_law_alike" = some (.ref f)) (hb : Binds K fd ps_l_alike []) : ∀ n, FnOk P w K mg base CX0 n f fd ps_l_alike (spAlike K n)
  | 0 => fn_no fun vs H Q E h => by
    obtain ⟨_, _, d, _, _, _, hd, _⟩ := h
    cases hd
  | n + 1 => by
    have D_l_alike : Df P w K mg base "_law_alike" n ps_l_alike (spAlike K n) := ⟨f, fd, ok_l_alike F T hm hb n, hm, F.kp, hb⟩
    refine F.ok sc_l_alike (fun vs H Q E h => ?_) (fun cdv A outer s H vs Q E hr h => ?_)
    · obtain ⟨_, _, _, rfl, _⟩ := h
      rfl
    · obtain ⟨v, u, d, rfl, hv, hu, hd, k⟩ := h
      refine ⟨_, (pss_cons (ps_if (pt_val (pe_callB call_isiT (by rfl) T.n_isinstance (by decide +kernel) (pa_cons (pv 0) (pa_cons (pe_tup (pa_cons (pe_bltn (v := .ty "list") (by rfl) T.n_list (by decide +kernel) rfl) (pa_cons (pe_bltn (v := .ty "tuple") (by rfl) T.n_tuple (by decide +kernel) rfl) pa_nil))) pa_nil))))
    (pss_cons (ps_if (PW.pt (pw_or (pt_cmpR op_ne (pe_callB call_isi (by rfl) T.n_isinstance (by decide +kernel) (pa_cons (pv 0) (pa_cons (pe_bltn (v := .ty "list") (by rfl) T.n_list (by decide +kernel) rfl) pa_nil))) (pe_callB call_isi (by rfl) T.n_isinstance (by decide +kernel) (pa_cons (pv 1) (pa_cons (pe_bltn (v := .ty "list") (by rfl) T.n_list (by decide +kernel) rfl) pa_nil))) (nomark _)) (pw_or1 (pt_cmpR op_ne (pe_callB call_isi (by rfl) T.n_isinstance (by decide +kernel) (pa_cons (pv 0) (pa_cons (pe_bltn (v := .ty "tuple") (by rfl) T.n_tuple (by decide +kernel) rfl) pa_nil))) (pe_callB call_isi (by rfl) T.n_isinstance (by decide +kernel) (pa_cons (pv 1) (pa_cons (pe_bltn (v := .ty "tuple") (by rfl) T.n_tuple (by decide +kernel) rfl) pa_nil))) (nomark _)))))
      (pss_one (ps_ret pe_bl))
      pss_nil)
    (pss_cons (ps_if (pt_cmpR op_ne (pe_callB call_len_seq (by rfl) T.n_len (by decide +kernel) (pa_cons (pv 0) pa_nil)) (pe_callB call_len_seq (by rfl) T.n_len (by decide +kernel) (pa_cons (pv 1) pa_nil)) (nomark _))
      (pss_one (ps_ret pe_bl))
      pss_nil)
    (pss_one (ps_ret (pe_callB (cr_all (by rfl)) (by rfl) T.n_all (by decide +kernel) (pa_cons (pe_lc (own := [("_law_k", 2)]) (g := gName 2) (tt := tYes) (by rfl) sc_l_alike.nd (pi_range1 (by rfl) T.n_range (pa_cons (pe_callB call_len_seq (by rfl) T.n_len (by decide +kernel) (pa_cons (pv 0) pa_nil)) pa_nil)) (blkOk_by (own := [("_law_k", 2)]) (N := sc_l_alikeN) (sc := defScope s_l_alike) (by decide +kernel)) (fun _ _ _ _ _ => pg_name (i := 2) sc_l_alike.nd rfl (Or.inl rfl)) (fun _ _ _ _ _ => pts_nil) (fun _ _ _ _ _ => (pe_d D_l_alike hr (pa_cons (pe_ix (ixK_seq (K := K)) (pv 0) (pv 2) (fun _ _ => rfl)) (pa_cons (pe_ix (ixK_seq (K := K)) (pv 1) (pv 2) (fun _ _ => rfl)) pa_nil))))) pa_nil))))))
    pss_nil)
  (pss_cons (ps_if (PW.pt (pw_and (pt_val (pe_callB call_isi (by rfl) T.n_isinstance (by decide +kernel) (pa_cons (pv 0) (pa_cons (pe_bltn (v := .ty "dict") (by rfl) T.n_dict (by decide +kernel) rfl) pa_nil)))) (pw_and1 (pt_val (pe_callB call_isi (by rfl) T.n_isinstance (by decide +kernel) (pa_cons (pv 1) (pa_cons (pe_bltn (v := .ty "dict") (by rfl) T.n_dict (by decide +kernel) rfl) pa_nil))))))) pss_never pss_nil)
  (pss_one (ps_ret (pe_and (pe_cmpR op_eq (pe_callB call_isi (by rfl) T.n_isinstance (by decide +kernel) (pa_cons (pv 0) (pa_cons (pe_bltn (v := .ty "bool") (by rfl) T.n_bool (by decide +kernel) rfl) pa_nil))) (pe_callB call_isi (by rfl) T.n_isinstance (by decide +kernel) (pa_cons (pv 1) (pa_cons (pe_bltn (v := .ty "bool") (by rfl) T.n_bool (by decide +kernel) rfl) pa_nil))) (nomark _)) (pe_one (pe_cmpR op_eq (pv 0) (pv 1) (nomark _)))))))), ?_⟩
      refine ⟨_, rfl, (by show 2 ≤ sizeLine; decide), fun tp htp => ?_⟩
      have s1 : Same H (upd H tp (.tup [.ty "list", .ty "tuple"])) := same_new _ htp
      have hv1 := dp_mono s1 _ _ hv
      have hu1 := dp_mono s1 _ _ hu
      have up : (upd H tp (.tup [.ty "list", .ty "tuple"])) tp = some (.tup [.ty "list", .ty "tuple"]) := upd_same
      generalize upd H tp (.tup [.ty "list", .ty "tuple"]) = H1 at *
      rcases dp_ty hv1 hd with ⟨a, xs, ds, rfl, hs, ha, hn, hl, hd2⟩ | ⟨hf, e, hv2⟩
      · -- two rows of one kind
        obtain ⟨c, ys, tn, bL, bT, rfl, hs2, ha2, ty1, ty2, kA, kL, kT⟩ : ∃ c ys tn bL bT, u = .ref c ∧ Sq K H1 c ys ∧ DpAll K H1 ys ds ∧ TyX K H1 (.ref a) (.type tn) ∧ TyX K H1 (.ref c) (.type tn) ∧ PySem.W.kitAny K (.type tn) [.type "list", .type "tuple"] = some true ∧
            PySem.W.kitOne K (.type tn) (.type "list") = some bL ∧ PySem.W.kitOne K (.type tn) (.type "tuple") = some bT := by
          rcases hd2 with ⟨rfl, hL⟩ | ⟨rfl, hT⟩
          · cases hu1 with
            | lst h1 h2 => exact ⟨_, _, "list", true, false, rfl, .inl h1, h2, lst_ty hL, lst_ty h1, kitAny_cons (b := true) (kB (by decide +kernel)) (fun z => nomatch z) fun _ => rfl, kB (by decide +kernel), kB (by decide +kernel)⟩
          · cases hu1 with
            | tup h1 h2 => exact ⟨_, _, "tuple", false, true, rfl, .inr h1, h2, tuT_ty hT, tuT_ty h1, kitAny_cons (b := false) (kB (by decide +kernel)) (fun _ => kitAny_cons (b := true) (kB (by decide +kernel)) (fun z => nomatch z) fun _ => rfl) (fun z => nomatch z), kB (by decide +kernel), kB (by decide +kernel)⟩
        have l1 := dpA_len ha
        have l2 := dpA_len ha2
        have same : ∀ v : V, (!decide (v = v)) = false := fun v => by simp
        refine ⟨_, tp, _, _, _, _, rfl, up, clsLT, ty1, kA, _, rfl, iteT ?_⟩
        refine ⟨_, rfl, _, _, _, _, _, rfl, .ty _, ty1, kL, _, rfl, _, _, _, _, _, rfl, .ty _, ty2, kL, rfl, _, rfl, ifF (same _) ?_⟩
        refine ⟨_, rfl, _, _, _, _, _, rfl, .ty _, ty1, kT, _, rfl, _, _, _, _, _, rfl, .ty _, ty2, kT, rfl, _, rfl, ifF (same _) ?_⟩
        refine ⟨_, rfl, a, xs, rfl, hs, _, rfl, c, ys, rfl, hs2, rfl, _, rfl, ifF (by rw [l1, l2]; exact same _) ?_⟩
        refine ⟨_, rfl, a, xs, rfl, hs, _, rfl, by omega, by omega, fun D hD => ?_⟩
        refine lc_range (lo := 0) (n := xs.length) (fun i H' => Same H1 H' ∧ H' D = some (.lst ((xs.take i).map fun _ => V.bl true))) ⟨same_new _ hD, by rw [upd_same]; rfl⟩ ?_ ?_
        · rintro i H2 hi ⟨s2, d2⟩
          have hx : xs[i]? = some xs[i] := List.getElem?_eq_getElem hi
          have hy : ys[i]? = some (ys[i]'(by omega)) := List.getElem?_eq_getElem _
          obtain ⟨d1, e1, q1⟩ := dpA_at ha hx
          obtain ⟨d3, e3, q3⟩ := dpA_at ha2 hy
          obtain rfl : d1 = d3 := by rw [e1] at e3; exact Option.some.inj e3
          refine ⟨rfl, _, rfl, _, rfl, ix_sq (Sq.same hs s2) (by rw [Int.zero_add]; exact atI_nat hx) ?_⟩
          refine ⟨_, rfl, _, rfl, ix_sq (hs2.same s2) (by rw [Int.zero_add]; exact atI_nat hy) ?_⟩
          refine ⟨_, _, d1, rfl, dp_mono s2 _ _ q1, dp_mono s2 _ _ q3, hn d1 (List.mem_of_getElem? e1), fun H4 s4 => ?_⟩
          refine ⟨_, s4 _ _ d2, take_lt _ (by omega), same_put (s2.trans s4) _ hD, ?_⟩
          rw [upd_same, map_take _ hx]
        · rintro H2 ⟨s2, d2⟩
          rw [List.take_length, bl_map] at d2
          refine ⟨D, _, rfl, .inl (.inl d2), ?_⟩
          have e3 : (xs.map fun _ => true).all id = true := by
            rw [List.all_map]
            simp
          rw [e3]
          exact k _ (s1.trans s2)
      · obtain rfl := dp_flat hf hv1 hu1
        obtain ⟨tn, b, ty, k0, k1, k2, k3, k4, sc⟩ := flat_all (K := K) hf
        refine ⟨_, tp, _, _, _, _, rfl, up, clsLT, ty _, k0, _, rfl, iteF ?_⟩
        refine ⟨_, rfl, _, _, _, _, _, rfl, .ty _, ty _, k3, _, rfl, iteF (iteF ?_)⟩
        refine ⟨_, rfl, _, _, _, _, _, rfl, .ty _, ty _, k4, _, rfl, _, _, _, _, _, rfl, .ty _, ty _, k4, rfl, _, rfl, ifT (decide_eq_true rfl) ?_⟩
        refine ⟨_, rfl, _, rfl, sc, ?_⟩
        rw [decide_eq_true rfl]
        exact k _ s1
end
end Fm

/-! ## K01H -/
set_option Elab.async false
set_option maxRecDepth 100000
set_option maxHeartbeats 4000000
namespace Fm
open PySem L2
/-- a flat thing, a list, a tuple or a dict -/
def Kn (F : Hp) (v : V) : Prop := flatV v = true ∨ ∃ a, v = .ref a ∧ ((∃ xs, F a = some (.lst xs)) ∨ (∃ xs, F a = some (.tup xs)) ∨ ∃ kvs, F a = some (.dK kvs))
theorem Kn.same {F F' : Hp} {v : V} (h : Kn F v) (s : Same F F') : Kn F' v := by
  rcases h with h | ⟨a, e, ⟨xs, h⟩ | ⟨xs, h⟩ | ⟨xs, h⟩⟩
  · exact .inl h
  · exact .inr ⟨a, e, .inl ⟨xs, s _ _ h⟩⟩
  · exact .inr ⟨a, e, .inr (.inl ⟨xs, s _ _ h⟩)⟩
  · exact .inr ⟨a, e, .inr (.inr ⟨xs, s _ _ h⟩)⟩
theorem Kn.put {F : Hp} {v : V} {L : Addr} {xs zs : List V} (h : Kn F v) (_ : F L = some (.lst xs)) : Kn (upd F L (.lst zs)) v := by
  rcases h with h | ⟨a, e, h⟩
  · exact .inl h
  · by_cases q : a = L
    · exact .inr ⟨a, e, .inl ⟨zs, by rw [q, upd_same]⟩⟩
    · refine .inr ⟨a, e, ?_⟩
      rw [upd_ne q]
      exact h
theorem Kn.ty {K : PySem.W.Frag} {F : Hp} {v : V} (h : Kn F v) : ∃ n ∈ shTys, TyX K F v (.type n) := by
  rcases h with h | ⟨a, e, ⟨xs, h⟩ | ⟨xs, h⟩ | ⟨xs, h⟩⟩
  · cases v with
    | non => exact ⟨"NoneType", by decide, .base .non⟩
    | bl b => exact ⟨"bool", by decide, .base (.bl b)⟩
    | int i => exact ⟨"int", by decide, .base (.int i)⟩
    | str s => exact ⟨"str", by decide, .base (.str s)⟩
    | byt b => cases h
    | flt b => cases h
    | ref a => cases h
    | ty n => cases h
  · subst e; exact ⟨"list", by decide, .base (.lst h)⟩
  · subst e; exact ⟨"tuple", by decide, .base (.tup h)⟩
  · subst e; exact ⟨"dict", by decide, .base (.dK h)⟩
theorem kn_l {F : Hp} {a : Addr} {xs : List V} (h : F a = some (.lst xs)) : Kn F (.ref a) := .inr ⟨a, rfl, .inl ⟨xs, h⟩⟩
theorem kn_t {F : Hp} {a : Addr} {xs : List V} (h : F a = some (.tup xs)) : Kn F (.ref a) := .inr ⟨a, rfl, .inr (.inl ⟨xs, h⟩)⟩
theorem kn_d {F : Hp} {a : Addr} {kvs : List (Key × V)} (h : F a = some (.dK kvs)) : Kn F (.ref a) := .inr ⟨a, rfl, .inr (.inr ⟨kvs, h⟩)⟩
/-- one object more, under one name -/
theorem bag_more {F H : Hp} {b p : Addr} {o : HO} (B : Bag F H b) (hp : H p = none) : ∃ F', Bag F' (upd H p o) b ∧ Same F F' ∧ F' p = some o ∧ F p = none :=
  ⟨upd F p o, B.new o hp, fun a u e => by rw [upd_ne (ne_of_none e (B.fh.free hp))]; exact e, upd_same, B.fh.free hp⟩
section
variable {P : Program} {w : World} {K : PySem.W.Frag} {mg : Str → Option Value} {base : Heap} {CS : Addr}
def spOdd : Sp := fun vs H Q _ => ∃ (F : Hp) (b : Addr), vs = [.ref b] ∧ Bag F H b ∧ ∀ (v : V) (F' H' : Hp), Bag F' H' b → Same F F' → Kn F' v → Q v H'
abbrev s_l_odd : Stmt := topS 25
abbrev sc_l_oddN : List Str := ["_law_bag_here", "_law_number", "_law_odd_here"]
abbrev ps_l_odd : List Str := ["_law_bag_here"]
theorem sc_l_odd : FnScope sc_l_oddN ps_l_odd (defScope s_l_odd) := ⟨rfl, rfl, rfl, by decide +kernel, rfl, by decide +kernel, by decide +kernel⟩
theorem ok_l_odd {f : Addr} {fd : FuncData} (F : Fun K "_law_odd" "_law_odd" s_l_odd f fd) (T : Txt K mg CS) (D_l_pick : Df P w K mg base "_law_pick" 1 ps_l_pick spPick) : FnOk P w K mg base CX0 2 f fd ps_l_odd spOdd := by
  refine F.ok sc_l_odd (fun vs H Q E h => ?_) (fun cdv A outer s H vs Q E hr h => ?_)
  · obtain ⟨_, _, rfl, _⟩ := h
    rfl
  · obtain ⟨F0, b, rfl, B, k⟩ := h
    refine ⟨_, (pss_cons (ps_set (i := 1) sc_l_odd.nd rfl (Or.inl rfl) (pe_op op_sub (pe_d D_l_pick (hr.mono (by decide)) (pa_cons (pv 0) (pa_cons pe_int pa_nil))) pe_int))
  (pss_cons (ps_set (i := 2) sc_l_odd.nd rfl (Or.inl rfl) (pe_lst (pa_cons pe_non (pa_cons pe_bl (pa_cons pe_bl (pa_cons pe_str (pa_cons pe_str (pa_cons pe_str (pa_cons pe_str (pa_cons pe_str (pa_cons pe_str (pa_cons (pe_tup pa_nil) (pa_cons (pe_lst pa_nil) (pa_cons pe_dnewK (pa_cons (pe_disp (pps_cons pe_str (pe_lst (pa_cons pe_int pa_nil)) pps_nil) (by rfl) (by rfl) (fun z => by cases z) (by decide)) (pa_cons (pe_tup (pa_cons pe_str (pa_cons pe_str (pa_cons pe_str pa_nil)))) (pa_cons (pe_lst (pa_cons pe_int (pa_cons pe_int pa_nil))) pa_nil)))))))))))))))))
  (pss_cons (ps_expr (pe_bm PySem.F.plainAttrs_list PySem.F.slot_list_extend PySem.F.type_list_extend mt_extend (pv 2) (pa_cons (pe_lst (pa_cons (pe_op op_add (pe_op op_pow pe_int pe_int) pe_int) (pa_cons (pe_op op_sub (pe_op op_sub pe_int (pe_op op_pow pe_int pe_int)) pe_int) (pa_cons (pe_op op_add (pe_op op_pow pe_int pe_int) (pv 1)) (pa_cons (pv 1) (pa_cons (pe_tup (pa_cons (pv 1) (pa_cons (pe_tup pa_nil) pa_nil))) (pa_cons (pe_lst (pa_cons (pe_lst (pa_cons (pv 1) pa_nil)) pa_nil)) (pa_cons (pe_tup (pa_cons pe_str pa_nil)) (pa_cons pe_str pa_nil))))))))) pa_nil)))
  (pss_one (ps_ret (pe_ix ix_list (pv 2) (pe_d D_l_pick (hr.mono (by decide)) (pa_cons (pv 0) (pa_cons (pe_callB call_len_seq (by rfl) T.n_len (by decide +kernel) (pa_cons (pv 2) pa_nil)) pa_nil))) (fun _ _ => rfl))))))), ?_⟩
    refine ⟨_, rfl, F0, b, 9, rfl, by decide, by decide, B, fun r G0 r0 r1 C0 => ⟨_, _, rfl, rfl, ?_⟩⟩
    refine ⟨Nat.zero_le _, fun p1 h1 => ?_⟩
    obtain ⟨F1, C1, s1, e1, _⟩ := bag_more (o := .tup []) C0 h1
    generalize upd G0 p1 (.tup []) = G1 at *
    refine ⟨Nat.zero_le _, fun p2 h2 => ?_⟩
    obtain ⟨F2, C2, s2, e2, _⟩ := bag_more (o := .lst []) C1 h2
    generalize upd G1 p2 (.lst []) = G2 at *
    intro p3 h3
    obtain ⟨F3, C3, s3, e3, _⟩ := bag_more (o := .dK []) C2 h3
    generalize upd G2 p3 (.dK []) = G3 at *
    intro p4 h4
    obtain ⟨F4, C4, s4, e4, n4⟩ := bag_more (o := .dK []) C3 h4
    generalize upd G3 p4 (.dK []) = G4 at *
    refine ⟨(by show 1 ≤ sizeLine; decide), fun p5 h5 => ?_⟩
    obtain ⟨F5, C5, s5, e5, _⟩ := bag_more (o := .lst [.int 1]) C4 h5
    generalize upd G4 p5 (.lst [.int 1]) = G5 at *
    refine ⟨C5.fh _ _ (s5 _ _ e4), [(Sum.inr "a", .ref p5)], rfl, (by show 1 ≤ 15; decide), ?_⟩
    obtain ⟨kv, hkv⟩ : ∃ kv, kv = mergeK [] [((Sum.inr "a" : Key), V.ref p5)] := ⟨_, rfl⟩
    rw [← hkv]
    have C6 := C5.put (.dK kv) (s5 _ _ e4)
    have s6 : Same F3 (upd F5 p4 (.dK kv)) := same_put (s4.trans s5) _ n4
    have e6 : (upd F5 p4 (.dK kv)) p4 = some (.dK kv) := upd_same
    generalize upd F5 p4 (.dK kv) = F6 at *
    generalize upd G5 p4 (.dK kv) = G6 at *
    refine ⟨(by show 3 ≤ sizeLine; decide), fun p7 h7 => ?_⟩
    obtain ⟨F7, C7, s7, e7, _⟩ := bag_more (o := .tup [.str "of", .str "a", .str "b"]) C6 h7
    generalize upd G6 p7 (.tup [.str "of", .str "a", .str "b"]) = G7 at *
    refine ⟨(by show 2 ≤ sizeLine; decide), fun p8 h8 => ?_⟩
    obtain ⟨F8, C8, s8, e8, _⟩ := bag_more (o := .lst [.int 1, .int 2]) C7 h8
    generalize upd G7 p8 (.lst [.int 1, .int 2]) = G8 at *
    refine ⟨(by show 15 ≤ sizeLine; decide), fun L hL => ?_⟩
    have kn1 : ∀ v ∈ ([.non, .bl true, .bl false, .str "", .str "Ab", .str "a b", .str "abcdefghi", .str "a_b", .str "z1", .ref p1, .ref p2, .ref p3, .ref p4, .ref p7, .ref p8] : List V), Kn F8 v := by
      have t3 := (s6.trans s7).trans s8
      intro v m
      simp only [List.mem_cons, List.not_mem_nil, or_false] at m
      rcases m with rfl | rfl | rfl | rfl | rfl | rfl | rfl | rfl | rfl | rfl | rfl | rfl | rfl | rfl | rfl
      all_goals first
        | exact .inl rfl
        | exact kn_t (t3 _ _ (s3 _ _ (s2 _ _ e1)))
        | exact kn_l (t3 _ _ (s3 _ _ e2))
        | exact kn_d (t3 _ _ e3)
        | exact kn_d (s8 _ _ (s7 _ _ e6))
        | exact kn_t (s8 _ _ e7)
        | exact kn_l e8
    generalize hxs : ([.non, .bl true, .bl false, .str "", .str "Ab", .str "a b", .str "abcdefghi", .str "a_b", .str "z1", .ref p1, .ref p2, .ref p3, .ref p4, .ref p7, .ref p8] : List V) = xs at *
    have lxs : xs.length = 15 := by rw [← hxs]; rfl
    obtain ⟨F9, C9, s9, e9, n9⟩ := bag_more (o := .lst xs) C8 hL
    have sAll : Same F0 F8 := s1.trans (s2.trans (s3.trans (s6.trans (s7.trans s8))))
    generalize upd G8 L (.lst xs) = G9 at *
    refine ⟨_, rfl, .inl ⟨rfl, _, .inl (.inl (C9.fh _ _ e9))⟩, ?_⟩
    refine ⟨_, _, rfl, rfl, ⟨by decide, by decide, by decide⟩, _, _, rfl, rfl, _, _, rfl, rfl, ⟨by decide, by decide, by decide⟩, _, _, rfl, rfl, _, _, rfl, rfl, _, _, rfl, rfl, ⟨by decide, by decide, by decide⟩, _, rfl, _, _, rfl, rfl, _, rfl, _, rfl, ?_⟩
    refine ⟨Nat.zero_le _, fun p10 h10 => ?_⟩
    obtain ⟨F10, C10, s10, e10, _⟩ := bag_more (o := .tup []) C9 h10
    generalize upd G9 p10 (.tup []) = G10 at *
    refine ⟨(by show 2 ≤ sizeLine; decide), fun p11 h11 => ?_⟩
    obtain ⟨F11, C11, s11, e11, _⟩ := bag_more (o := .tup [.int (r - 4), .ref p10]) C10 h11
    generalize upd G10 p11 (.tup [.int (r - 4), .ref p10]) = G11 at *
    refine ⟨_, rfl, ?_⟩
    refine ⟨(by show 1 ≤ sizeLine; decide), fun p12 h12 => ?_⟩
    obtain ⟨F12, C12, s12, e12, _⟩ := bag_more (o := .lst [.int (r - 4)]) C11 h12
    generalize upd G11 p12 (.lst [.int (r - 4)]) = G12 at *
    refine ⟨(by show 1 ≤ sizeLine; decide), fun p13 h13 => ?_⟩
    obtain ⟨F13, C13, s13, e13, _⟩ := bag_more (o := .lst [.ref p12]) C12 h13
    generalize upd G12 p13 (.lst [.ref p12]) = G13 at *
    refine ⟨(by show 1 ≤ sizeLine; decide), fun p14 h14 => ?_⟩
    obtain ⟨F14, C14, s14, e14, _⟩ := bag_more (o := .tup [.str "scan"]) C13 h14
    generalize upd G13 p14 (.tup [.str "scan"]) = G14 at *
    refine ⟨(by show 8 ≤ sizeLine; decide), fun M hM => ?_⟩
    have kn2 : ∀ v ∈ ([.int (10 ^ 9 + 1), .int (0 - 10 ^ 9 - 1), .int (10 ^ 40 + (r - 4)), .int (r - 4), .ref p11, .ref p13, .ref p14, .str "none"] : List V), Kn F14 v := by
      intro v m
      simp only [List.mem_cons, List.not_mem_nil, or_false] at m
      rcases m with rfl | rfl | rfl | rfl | rfl | rfl | rfl | rfl
      all_goals first
        | exact .inl rfl
        | exact kn_t (s14 _ _ (s13 _ _ (s12 _ _ e11)))
        | exact kn_l (s14 _ _ e13)
        | exact kn_t e14
    have t9 : Same F9 F14 := s10.trans (s11.trans (s12.trans (s13.trans s14)))
    obtain ⟨F15, C15, s15, e15, _⟩ := bag_more (o := .lst [.int (10 ^ 9 + 1), .int (0 - 10 ^ 9 - 1), .int (10 ^ 40 + (r - 4)), .int (r - 4), .ref p11, .ref p13, .ref p14, .str "none"]) C14 hM
    obtain ⟨ys, hys⟩ : ∃ ys : List V, ys = [.int (10 ^ 9 + 1), .int (0 - 10 ^ 9 - 1), .int (10 ^ 40 + (r - 4)), .int (r - 4), .ref p11, .ref p13, .ref p14, .str "none"] := ⟨_, rfl⟩
    have lys : ys.length = 8 := by rw [hys]; rfl
    rw [← hys] at kn2 e15 C15
    refine ⟨L, M, xs, ys, rfl, rfl, ?_, ?_, by rw [lxs, lys]; decide, ?_⟩
    · have z := C15.fh _ _ (s15 _ _ (t9 _ _ e9))
      rw [hys] at z
      exact z
    · have z := C15.fh _ _ e15
      rw [hys] at z
      rw [hys]
      exact z
    have C16 := C15.put (.lst (xs ++ ys)) (s15 _ _ (t9 _ _ e9))
    have t8 : Same F8 (upd F15 L (.lst (xs ++ ys))) := same_put (s9.trans (t9.trans s15)) _ n9
    have all : ∀ v ∈ xs ++ ys, Kn (upd F15 L (.lst (xs ++ ys))) v := fun v m => by
      rcases List.mem_append.mp m with m | m
      · exact (kn1 v m).same t8
      · exact ((kn2 v m).same s15).put (s15 _ _ (t9 _ _ e9))
    have eL : (upd F15 L (.lst (xs ++ ys))) L = some (.lst (xs ++ ys)) := upd_same
    have lz : (xs ++ ys).length = 23 := by rw [List.length_append, lxs, lys]
    refine ⟨_, rfl, _, rfl, _, rfl, L, xs ++ ys, rfl, .inl (.inl (.inl upd_same)), _, b, _, rfl, by rw [lz]; decide, by rw [lz]; decide, (by rw [hys] at C16; rw [hys]; exact C16), fun q H' q0 q1 CE => ?_⟩
    rw [← hys] at CE
    obtain ⟨v, hv, hm⟩ := at_mem (xs := xs ++ ys) q0 q1
    refine ⟨L, _, _, _, rfl, rfl, .inl (.inl (CE.fh _ _ eL)), hv, ?_⟩
    exact k v _ H' CE (sAll.trans t8) (all v hm)
end
end Fm

/-! ## K01I -/
set_option Elab.async false
set_option maxRecDepth 100000
set_option maxHeartbeats 4000000
namespace Fm
open PySem L2
section
variable {K : PySem.W.Frag} {F G G' H H' : Hp}
/-- a table as it is handed in: a new pair, its fields in a new list or the old tuple -/
def Hd (K : PySem.W.Frag) (F F' : Hp) (v : V) (t : Tab) : Prop := ∃ p r, v = .ref p ∧ F p = none ∧ F' p = some (.tup [.str t.1, .ref r]) ∧ ((F r = none ∧ F' r = some (.lst (t.2.map V.str))) ∨ SqT K F r (t.2.map V.str))
theorem hd_mono {v : V} {t : Tab} (s : Same G G') (h : Hd K F G v t) : Hd K F G' v t := by
  obtain ⟨p, r, e, n, h1, h2 | h2⟩ := h
  · exact ⟨p, r, e, n, s _ _ h1, .inl ⟨h2.1, s _ _ h2.2⟩⟩
  · exact ⟨p, r, e, n, s _ _ h1, .inr h2⟩
theorem hdA_mono {xs : List V} {ts : List Tab} (s : Same G G') (h : Paired (Hd K F G) xs ts) : Paired (Hd K F G') xs ts := Paired.mapP h fun _ _ => hd_mono s
theorem paired_snoc {α β : Type} {R : α → β → Prop} {x : α} {y : β} : ∀ {xs : List α} {ys : List β}, Paired R xs ys → R x y → Paired R (xs ++ [x]) (ys ++ [y])
  | _, _, .nil, h => .cons h .nil
  | _, _, .cons r t, h => .cons r (paired_snoc t h)
def HandAt (K : PySem.W.Frag) (F F' : Hp) (q : Addr) (ts : List Tab) : Prop := F q = none ∧ ∃ xs, (F' q = some (.lst xs) ∨ F' q = some (.tup xs)) ∧ Paired (Hd K F F') xs ts
/-- the same tables at a shape's tree -/
theorem hd_dp (s : Same F G) {v : V} {t : Tab} (h : Hd K F G v t) : ∃ d, Dp K G v d ∧ ∃ b, d = tabD b t := by
  obtain ⟨p, r, rfl, _, h1, h2 | h2⟩ := h
  · exact ⟨tabD true t, .tup (.inl (.inl h1)) (.cons (.str _) (.cons (.lst (.inl (.inl h2.2)) (dpA_strs _)) .nil)), true, rfl⟩
  · exact ⟨tabD false t, .tup (.inl (.inl h1)) (.cons (.str _) (.cons (.tup (same_sqT s h2) (dpA_strs _)) .nil)), false, rfl⟩
theorem hdA_dp (s : Same F G) : ∀ {xs : List V} {ts : List Tab}, Paired (Hd K F G) xs ts → ∃ ds, DpAll K G xs ds ∧ TabsD ds ts
  | _, _, .nil => ⟨[], .nil, .nil⟩
  | _, _, .cons r t => by
    obtain ⟨d, h1, h2⟩ := hd_dp s r
    obtain ⟨ds, h3, h4⟩ := hdA_dp s t
    exact ⟨d :: ds, .cons h1 h3, .cons h2 h4⟩
end
section
variable {P : Program} {w : World} {K : PySem.W.Frag} {mg : Str → Option Value} {base : Heap} {CS : Addr}
def spHanded (K : PySem.W.Frag) : Sp := fun vs H Q _ => ∃ (F : Hp) (b p : Addr) (ts : List Tab), vs = [.ref b, .ref p] ∧ Bag F H b ∧ TbAt K F p ts ∧ ts.length ≤ 10 ∧ ∀ (q : Addr) (F' H' : Hp), Bag F' H' b → Same F F' → HandAt K F F' q ts → Q (.ref q) H'
abbrev s_l_handed : Stmt := topS 26
abbrev sc_l_handedN : List Str := ["_law_bag_here", "_law_tables_here", "_law_handed_here", "_law_name_here", "_law_fields"]
abbrev ps_l_handed : List Str := ["_law_bag_here", "_law_tables_here"]
theorem sc_l_handed : FnScope sc_l_handedN ps_l_handed (defScope s_l_handed) := ⟨rfl, rfl, rfl, by decide +kernel, rfl, by decide +kernel, by decide +kernel⟩
theorem ok_l_handed {f : Addr} {fd : FuncData} (F : Fun K "_law_handed" "_law_handed" s_l_handed f fd) (T : Txt K mg CS) (D_l_pick : Df P w K mg base "_law_pick" 1 ps_l_pick spPick) : FnOk P w K mg base CX0 2 f fd ps_l_handed (spHanded K) := by
  refine F.ok sc_l_handed (fun vs H Q E h => ?_) (fun cdv A outer s H vs Q E hr h => ?_)
  · obtain ⟨_, _, _, _, rfl, _⟩ := h
    rfl
  · obtain ⟨F0, b, p, ts, rfl, B, ⟨xs, hp, dx⟩, len, k⟩ := h
    have lx : xs.length = ts.length := by rw [dpA_len dx, List.length_map]
    refine ⟨_, (pss_cons (ps_set (i := 2) sc_l_handed.nd rfl (Or.inl rfl) (pe_lst pa_nil))
  (pss_cons (ps_for PassesOwn.never rfl (pi_list (pv 1)) (pg_tup (by rfl) (pgs_cons (pg_name (i := 3) sc_l_handed.nd rfl (Or.inl rfl)) (pgs_cons (pg_name (i := 4) sc_l_handed.nd rfl (Or.inl rfl)) pgs_nil)))
    (pss_one (ps_if (pt_cmpR op_eq (pe_d D_l_pick (hr.mono (by decide)) (pa_cons (pv 0) (pa_cons pe_int pa_nil))) pe_int (nomark _))
      (pss_one (ps_expr (pe_bm PySem.F.plainAttrs_list PySem.F.slot_list_append PySem.F.type_list_append mt_append (pv 2) (pa_cons (pe_tup (pa_cons (pv 3) (pa_cons (pe_callTy call_list_of (by rfl) T.n_list (by decide +kernel) (pa_cons (pv 4) pa_nil)) pa_nil))) pa_nil))))
      (pss_one (ps_expr (pe_bm PySem.F.plainAttrs_list PySem.F.slot_list_append PySem.F.type_list_append mt_append (pv 2) (pa_cons (pe_tup (pa_cons (pv 3) (pa_cons (pv 4) pa_nil))) pa_nil)))))))
  (pss_cons (ps_if (pt_cmpR op_eq (pe_d D_l_pick (hr.mono (by decide)) (pa_cons (pv 0) (pa_cons pe_int pa_nil))) pe_int (nomark _))
    (pss_one (ps_ret (pe_callTy call_tuple_of (by rfl) T.n_tuple (by decide +kernel) (pa_cons (pv 2) pa_nil))))
    pss_nil)
  (pss_one (ps_ret (pv 2)))))), ?_⟩
    refine ⟨Nat.zero_le _, fun h hh => ?_⟩
    have fh : F0 h = none := B.fh.free hh
    refine ⟨_, rfl, p, rfl, ⟨_, .inl (.inl ((B.new (.lst []) hh).fh _ _ (by rw [upd_ne (ne_of_none hp fh)]; exact hp)))⟩, for_list (K := K) (a := p) (xs := xs) (fun i σ H' => ∃ (G : Hp) (ys : List V) (v3 v4 : Option V), σ = [some (.ref b), some (.ref p), some (.ref h), v3, v4] ∧ Same F0 G ∧ G h = none ∧
      Bag (upd G h (.lst ys)) H' b ∧ Paired (Hd K F0 G) ys (ts.take i)) ⟨F0, [], _, _, rfl, Same.refl _, fh, B.new _ hh, .nil⟩ (fun i σ H' _ z => ?_) ?_ ?_⟩
    · obtain ⟨G, ys, _, _, _, sG, gh, BG, _⟩ := z
      exact .inl (.inl (BG.fh _ _ (by rw [upd_ne (ne_of_none hp fh)]; exact sG _ _ hp)))
    · rintro i x σ H1 hx ⟨G, ys, v3, v4, rfl, sG, gh, B1, hd⟩
      obtain ⟨c, hc, hdp⟩ := dpA_at dx hx
      rw [List.getElem?_map] at hc
      obtain ⟨t, ht, rfl⟩ := Option.map_eq_some_iff.mp hc
      obtain ⟨u, r, rfl, hu, _, _, hr2⟩ := tab_inv hdp
      have hr3 := hr2 rfl
      have toH : Same F0 (upd G h (.lst ys)) := fun a o e => by rw [upd_ne (ne_of_none e fh)]; exact sG a o e
      have ly : ys.length ≤ 10 := by
        have q := Paired.length hd
        rw [List.length_take] at q
        omega
      have tk : ts.take (i + 1) = ts.take i ++ [t] := by
        rw [List.take_add_one, ht]
        rfl
      refine ⟨u, _, rfl, same_sqT (toH.trans B1.fh) hu, rfl, _, _, rfl, _, _, rfl, rfl, ?_⟩
      refine ⟨_, rfl, _, b, 2, rfl, by decide, by decide, B1, fun n H2 n0 n1 B2 => ⟨rfl, _, rfl, ifd (fun _ => ?_) fun _ => ?_⟩⟩
      · have hh2 := B2.fh _ _ upd_same
        refine ⟨_, rfl, .inl ⟨rfl, _, .inl (.inl hh2)⟩, _, rfl, _, rfl, r, _, rfl, .inr (same_sqT (toH.trans B2.fh) hr3), fun l hl => ⟨(by show 2 ≤ sizeLine; decide), fun e he => ?_⟩⟩
        have nlh : l ≠ h := fun z => by rw [z, hh2] at hl; cases hl
        have gl : G l = none := by have z := B2.fh.free hl; rw [upd_ne nlh] at z; exact z
        have nel : e ≠ l := fun z => by rw [z, upd_same] at he; cases he
        have he2 : H2 e = none := by rw [upd_ne nel] at he; exact he
        have neh : e ≠ h := fun z => by rw [z, hh2] at he2; cases he2
        have ge : G e = none := by have z := B2.fh.free he2; rw [upd_ne neh] at z; exact z
        have B3 := (B2.new (.lst (t.2.map V.str)) hl).new (.tup [.str t.1, .ref l]) he
        have B4 := B3.put (.lst (ys ++ [.ref e])) (o := .lst ys) (l := h) (by rw [upd_ne (Ne.symm neh), upd_ne (Ne.symm nlh), upd_same])
        rw [upd_comm neh, upd_comm nlh, upd_upd, upd_comm (a := h) (b := l) (Ne.symm nlh), upd_comm (a := h) (b := e) (Ne.symm neh)] at B4
        have sG2 : Same G (upd (upd G l (.lst (t.2.map V.str))) e (.tup [.str t.1, .ref l])) := fun a o z => by
          rw [upd_ne (ne_of_none z ge), upd_ne (ne_of_none z gl)]
          exact z
        refine ⟨h, ys, _, rfl, rfl, by rw [upd_ne (Ne.symm neh), upd_ne (Ne.symm nlh)]; exact hh2, Nat.lt_of_le_of_lt ly (by decide), ?_⟩
        refine ⟨_, ys ++ [.ref e], _, _, rfl, sG.trans sG2, upd_none (upd_none gh (Ne.symm nlh)) (Ne.symm neh), B4, ?_⟩
        rw [tk]
        exact paired_snoc (hdA_mono sG2 hd) ⟨e, l, rfl, sG.free ge, upd_same, .inl ⟨sG.free gl, by rw [upd_ne (Ne.symm nel), upd_same]⟩⟩
      · have hh2 := B2.fh _ _ upd_same
        refine ⟨_, rfl, .inl ⟨rfl, _, .inl (.inl hh2)⟩, _, rfl, _, rfl, (by show 2 ≤ sizeLine; decide), fun e he => ?_⟩
        have neh : e ≠ h := fun z => by rw [z, hh2] at he; cases he
        have ge : G e = none := by have z := B2.fh.free he; rw [upd_ne neh] at z; exact z
        have B3 := B2.new (.tup [.str t.1, .ref r]) he
        have B4 := B3.put (.lst (ys ++ [.ref e])) (o := .lst ys) (l := h) (by rw [upd_ne (Ne.symm neh), upd_same])
        rw [upd_comm neh, upd_upd, upd_comm (a := h) (b := e) (Ne.symm neh)] at B4
        have sG2 : Same G (upd G e (.tup [.str t.1, .ref r])) := fun a o z => by
          rw [upd_ne (ne_of_none z ge)]
          exact z
        refine ⟨h, ys, _, rfl, rfl, by rw [upd_ne (Ne.symm neh)]; exact hh2, Nat.lt_of_le_of_lt ly (by decide), ?_⟩
        refine ⟨_, ys ++ [.ref e], _, _, rfl, sG.trans sG2, upd_none gh (Ne.symm neh), B4, ?_⟩
        rw [tk]
        exact paired_snoc (hdA_mono sG2 hd) ⟨e, r, rfl, sG.free ge, upd_same, .inr hr3⟩
    · rintro σ H1 ⟨G, ys, v3, v4, rfl, sG, gh, B1, hd⟩
      rw [lx, List.take_length] at hd
      have sGh : Same G (upd G h (.lst ys)) := fun a o e => by rw [upd_ne (ne_of_none e gh)]; exact e
      refine ⟨_, rfl, _, b, 3, rfl, by decide, by decide, B1, fun n H2 n0 n1 B2 => ⟨rfl, _, rfl, ifd (fun _ => ?_) fun _ => ?_⟩⟩
      · have hh2 := B2.fh _ _ upd_same
        refine ⟨_, rfl, h, _, rfl, .inl ⟨.inl (.inl hh2), fun u hu => ?_⟩⟩
        have fu := (sG.trans sGh).free (B2.fh.free hu)
        have s2 : Same (upd G h (.lst ys)) (upd (upd G h (.lst ys)) u (.tup ys)) := fun a o e => by rw [upd_ne (ne_of_none (B2.fh _ _ e) hu)]; exact e
        exact k u _ _ (B2.new (.tup ys) hu) ((sG.trans sGh).trans s2) ⟨fu, ys, .inr upd_same, hdA_mono (sGh.trans s2) hd⟩
      · exact ⟨_, rfl, k h _ _ B2 (sG.trans sGh) ⟨fh, ys, .inl upd_same, hdA_mono sGh hd⟩⟩
end
end Fm

/-! ## K01J -/
set_option Elab.async false
set_option maxRecDepth 100000
set_option maxHeartbeats 4000000
namespace Fm
open PySem L2
section
variable {K : PySem.W.Frag} {H H' : Hp}
/-- without the list that is being made -/
def wo (H : Hp) (D : Addr) : Hp := fun a => if a = D then none else H a
theorem wo_ne {D a : Addr} (h : a ≠ D) : wo H D a = H a := if_neg h
theorem wo_same {D : Addr} (s : Same H H') : Same (wo H D) (wo H' D) := fun a o e => by
  by_cases h : a = D
  · unfold wo at e
    rw [if_pos h] at e
    cases e
  · rw [wo_ne h] at e ⊢
    exact s a o e
theorem wo_sub {D : Addr} : Same (wo H D) H := fun a o e => by
  by_cases h : a = D
  · unfold wo at e
    rw [if_pos h] at e
    cases e
  · rw [wo_ne h] at e
    exact e
theorem wo_from {D : Addr} (s : Same H H') (hD : H D = none) : Same H (wo H' D) := fun a o e => by
  rw [wo_ne (ne_of_none e hD)]
  exact s a o e
theorem wo_upd {D : Addr} {o : HO} : wo (upd H D o) D = wo H D := by
  funext a
  unfold wo
  by_cases h : a = D
  · rw [if_pos h, if_pos h]
  · rw [if_neg h, if_neg h, upd_ne h]
theorem tabs_dn {ts : List Tab} (h : ∀ t ∈ ts, TOk t) : ∀ d ∈ ts.map (tabD false), Dn 3 d := fun d m => by
  obtain ⟨t, ht, rfl⟩ := List.mem_map.mp m
  exact tab_dn (h t ht)
end
section
variable {P : Program} {w : World} {K : PySem.W.Frag} {mg : Str → Option Value} {base : Heap} {CS : Addr}
theorem ShAt.same {H H' : Hp} {a : Addr} {ts : List Tab} (h : ShAt K CS H a ts) (s : Same H H') : ShAt K CS H' a ts := by
  obtain ⟨dx, v, h1, h2⟩ := h
  exact ⟨dx, v, s _ _ h1, dp_mono s _ _ h2⟩
def spTells (K : PySem.W.Frag) (CS : Addr) : Sp := fun vs H Q _ => ∃ (a p : Addr) (ts : List Tab) (xs : List V), vs = [.ref a, .ref p] ∧ ShAt K CS H a ts ∧ Sq K H p xs ∧ DpAll K H xs (ts.map (tabD false)) ∧ TsOk ts ∧ ∀ H', Same H H' → Q (.bl true) H'
abbrev s_l_tells : Stmt := topS 27
abbrev sc_l_tellsN : List Str := ["_law_shape", "_law_tables_here", "_law_table", "_law_due"]
abbrev ps_l_tells : List Str := ["_law_shape", "_law_tables_here"]
theorem sc_l_tells : FnScope sc_l_tellsN ps_l_tells (defScope s_l_tells) := ⟨rfl, rfl, rfl, by decide +kernel, rfl, by decide +kernel, by decide +kernel⟩
theorem ok_l_tells {f : Addr} {fd : FuncData} (F : Fun K "_law_tells" "_law_tells" s_l_tells f fd) (T : Txt K mg CS) (D_l_alike : ∀ n, Df P w K mg base "_law_alike" n ps_l_alike (spAlike K n)) (D_fields_of : Dm P w K mg base CS "fields_of" 1 ps_Shape_fields_of (spFields K CS)) :
    FnOk P w K mg base CX0 5 f fd ps_l_tells (spTells K CS) := by
  refine F.ok sc_l_tells (fun vs H Q E h => ?_) (fun cdv A outer s H vs Q E hr h => ?_)
  · obtain ⟨_, _, _, _, rfl, _⟩ := h
    rfl
  · obtain ⟨a, p, ts, xs, rfl, sh, hp, dx, ok, k⟩ := h
    have D4 := D_l_alike 4
    have lx : xs.length = ts.length := by rw [dpA_len dx, List.length_map]
    refine ⟨_, (pss_cons (ps_set (i := 3) sc_l_tells.nd rfl (Or.inl rfl) (pe_callTy call_tuple_of (by rfl) T.n_tuple (by decide +kernel) (pa_cons (pe_lc (own := [("_law_table", 2)]) (g := gName 2) (tt := tYes) (by rfl) sc_l_tells.nd (pi_any (pv 1)) (blkOk_by (own := [("_law_table", 2)]) (N := sc_l_tellsN) (sc := defScope s_l_tells) (by decide +kernel)) (fun _ _ _ _ _ => pg_name (i := 2) sc_l_tells.nd rfl (Or.inl rfl)) (fun _ _ _ _ _ => pts_nil) (fun _ _ _ _ _ => (pe_tup (pa_cons (pe_ix (ixK_tup (K := K)) (pv 2) pe_int (fun _ _ => rfl)) (pa_cons (pe_callTy (cK_tuple_of (K := K)) (by rfl) T.n_tuple (by decide +kernel) (pa_cons (pe_ix (ixK_tup (K := K)) (pv 2) pe_int (fun _ _ => rfl)) pa_nil)) pa_nil))))) pa_nil)))
  (pss_cons (ps_if (pt_not (pt_val (pe_d D4 (hr.mono (by decide)) (pa_cons (pe_fld (pv 0) rfl) (pa_cons (pv 3) pa_nil)))))
    (pss_one (ps_ret pe_bl))
    pss_nil)
  (pss_cons (ps_for PassesOwn.never rfl (pi_tup (pv 3)) (pg_name (i := 2) sc_l_tells.nd rfl (Or.inl rfl))
    (pss_one (ps_if (pt_not (pt_val (pe_d D4 (hr.mono (by decide)) (pa_cons (pe_dm (pv 0) T.cl D_fields_of (hr.mono (by decide)) (pa_cons (pe_ix ix_tup (pv 2) pe_int (fun _ _ => rfl)) pa_nil)) (pa_cons (pe_ix ix_tup (pv 2) pe_int (fun _ _ => rfl)) pa_nil)))))
      (pss_one (ps_ret pe_bl))
      pss_nil)))
  (pss_one (ps_ret pe_bl))))), ?_⟩
    refine ⟨_, rfl, p, xs, rfl, any_of (K := K) hp (Same.refl _) fun J G gm wk => (fun D hD => ?_)⟩
    refine lc_it wk (fun i H' => Same H H' ∧ ∃ ys, H' D = some (.lst ys) ∧ ys.length = i ∧ DpAll K (wo H' D) ys ((ts.take i).map (tabD false))) ⟨same_new _ hD, [], upd_same, rfl, .nil⟩ (fun i H' _ z => gm H' z.1) ?_ ?_
    · rintro i x H2 H3 hi ⟨s2, ys, d2, yl, da⟩ ⟨rfl, hx⟩
      obtain ⟨c, hc, hxc⟩ := dpA_at dx hx
      rw [List.getElem?_map] at hc
      obtain ⟨t, ht, rfl⟩ := Option.map_eq_some_iff.mp hc
      obtain ⟨u, r, rfl, hu, _, _, hr2⟩ := tab_inv hxc
      have hr3 := hr2 rfl
      refine ⟨rfl, _, rfl, u, _, 0, _, rfl, rfl, same_sqT s2 hu, rfl, _, rfl, u, _, 1, _, rfl, rfl, same_sqT s2 hu, rfl, r, _, rfl, .inr ⟨same_sqT s2 hr3, (by show 2 ≤ sizeLine; decide), fun e he => ?_⟩⟩
      have neD : e ≠ D := fun z => by rw [z, d2] at he; cases he
      refine ⟨ys, by rw [upd_ne (Ne.symm neD)]; exact d2, Nat.lt_of_le_of_lt (show ys.length ≤ 100 by have q := ok.hi; omega) (by decide), same_put (s2.trans (same_new _ he)) _ hD, ys ++ [.ref e], upd_same, by rw [List.length_append, yl]; rfl, ?_⟩
      rw [wo_upd, map_take _ ht]
      refine dpA_snoc (dpA_mono (wo_same (same_new _ he)) _ _ da) (.tup (.inl (.inl (by rw [wo_ne neD, upd_same]))) (.cons (.str _) (.cons (.tup (same_sqT ?_ hr3) (dpA_strs _)) .nil)))
      exact wo_from (s2.trans (same_new _ he)) hD
    · rintro H2 ⟨s2, ys, d2, yl, da⟩
      rw [lx, List.take_length] at da
      refine ⟨D, ys, rfl, .inl ⟨.inl (.inl d2), fun l hl => ?_⟩⟩
      have s3 : Same H2 (upd H2 l (.tup ys)) := same_new _ hl
      have da3 : DpAll K (upd H2 l (.tup ys)) ys (ts.map (tabD false)) := dpA_mono (wo_sub.trans s3) _ _ da
      have hl3 : (upd H2 l (.tup ys)) l = some (.tup ys) := upd_same
      have s03 := s2.trans s3
      generalize upd H2 l (.tup ys) = H3 at *
      obtain ⟨dx', v, ha, dv⟩ := sh.same s03
      have dn4 : Dn 4 (.tuple (ts.map (tabD false))) := .tuple 3 _ (tabs_dn ok.ok) (by rw [List.length_map]; have q := ok.hi; omega)
      refine ⟨_, rfl, a, CS, dx', _, v, rfl, ha, T.cl, T.nT, rfl, _, rfl, v, .ref l, _, rfl, dv, .tup (.inl (.inl hl3)) da3, dn4, fun H4 s4 => ⟨_, rfl, iteF ?_⟩⟩
      refine ⟨_, rfl, l, rfl, ⟨_, .inl (.inl (s4 _ _ hl3))⟩, for_tup (K := K) (a := l) (xs := ys) (fun i σ H' => ∃ v2, σ = [some (.ref a), some (.ref p), v2, some (.ref l)] ∧ Same H4 H') ⟨_, rfl, Same.refl _⟩ (fun i σ H' _ z => by obtain ⟨_, _, z⟩ := z; exact .inl (.inl (z _ _ (s4 _ _ hl3)))) ?_ ?_⟩
      · rintro i x σ H5 hx ⟨v2, rfl, s5⟩
        have s35 := s4.trans s5
        obtain ⟨c, hc, hxc⟩ := dpA_at da3 hx
        rw [List.getElem?_map] at hc
        obtain ⟨t, ht, rfl⟩ := Option.map_eq_some_iff.mp hc
        have htm := List.mem_of_getElem? ht
        obtain ⟨u, r, rfl, hu, _, _, hr2⟩ := tab_inv hxc
        have hu5 := same_sqT s35 hu
        refine ⟨_, rfl, a, dx', _, rfl, s35 _ _ ha, rfl, ?_⟩
        refine ⟨_, rfl, u, _, 0, _, rfl, rfl, hu5, rfl, ?_⟩
        refine ⟨a, t, ts, rfl, sh.same (s03.trans s35), ok.nd, htm, fun q hq => ?_⟩
        refine ⟨_, rfl, u, _, 1, _, rfl, rfl, hu5, rfl, ?_⟩
        have l4 : t.2.length ≤ 100000 := by have q := (ok.ok t htm).fs.hi; omega
        obtain ⟨q1, q2⟩ := dn_strs (n := 2) l4
        refine ⟨_, _, .tuple (t.2.map PyData.str), rfl, .tup hq (dpA_strs _), .tup (same_sqT s35 (hr2 rfl)) (dpA_strs _), .tuple 3 _ q1 q2, fun H6 s6 => ⟨_, rfl, iteF ?_⟩⟩
        exact ⟨_, rfl, s5.trans s6⟩
      · rintro σ H5 ⟨v2, rfl, s5⟩
        exact k _ (s03.trans (s4.trans s5))
end
end Fm

/-! ## K01K -/
set_option Elab.async false
set_option maxRecDepth 100000
set_option maxHeartbeats 4000000
namespace Fm
open PySem L2
/-! lists of tables that are changed at one place -/
section
variable {K : PySem.W.Frag} {H H' : Hp}
theorem dpA_take : ∀ {ds : List PyData} {vs : List V} (n : Nat), DpAll K H vs ds → DpAll K H (vs.take n) (ds.take n)
  | [], _, n, h => by cases h; simp; exact .nil
  | d :: ds, _, 0, h => .nil
  | d :: ds, _, n + 1, h => by
    cases h with
    | cons h1 h2 => exact .cons h1 (dpA_take n h2)
theorem dpA_drop : ∀ {ds : List PyData} {vs : List V} (n : Nat), DpAll K H vs ds → DpAll K H (vs.drop n) (ds.drop n)
  | [], _, n, h => by cases h; simp; exact .nil
  | d :: ds, _, 0, h => h
  | d :: ds, _, n + 1, h => by
    cases h with
    | cons h1 h2 => exact dpA_drop n h2
theorem dpA_app : ∀ {ds es : List PyData} {vs us : List V}, DpAll K H vs ds → DpAll K H us es → DpAll K H (vs ++ us) (ds ++ es)
  | [], es, _, us, h, g => by cases h; exact g
  | d :: ds, es, _, us, h, g => by
    cases h with
    | cons h1 h2 => exact .cons h1 (dpA_app h2 g)
end
theorem set_parts {α : Type} (l : List α) (i : Nat) (x : α) (h : i < l.length) : l.set i x = l.take i ++ x :: l.drop (i + 1) := by
  rw [List.set_eq_take_append_cons_drop, if_pos h]
theorem nodup_set {α : Type} : ∀ {l : List α} {i : Nat} {x : α}, l.Nodup → x ∉ l → (l.set i x).Nodup
  | [], _, _, _, _ => .nil
  | a :: r, 0, x, hN, hx => List.nodup_cons.mpr ⟨fun m => hx (List.mem_cons_of_mem _ m), (List.nodup_cons.mp hN).2⟩
  | a :: r, i + 1, x, hN, hx => by
    have q := List.nodup_cons.mp hN
    refine List.nodup_cons.mpr ⟨fun m => ?_, nodup_set q.2 fun m => hx (List.mem_cons_of_mem _ m)⟩
    rcases List.mem_or_eq_of_mem_set m with m | e
    · exact q.1 m
    · exact hx (by rw [← e]; exact List.mem_cons_self)
theorem rot_ne {α : Type} {l : List α} (hN : l.Nodup) (h : 1 < l.length) : l.drop 1 ++ l.take 1 ≠ l := by
  match l, hN, h with
  | a :: b :: r, hN, _ =>
    intro e
    have q := List.nodup_cons.mp hN
    have z : b = a := by
      have y : (b :: r ++ [a]) = a :: b :: r := e
      injection y
    exact q.1 (by rw [z]; exact List.mem_cons_self)
theorem rot_nodup {α : Type} {l : List α} (hN : l.Nodup) : (l.drop 1 ++ l.take 1).Nodup := by
  match l, hN with
  | [], _ => exact .nil
  | a :: r, hN =>
    have q := List.nodup_cons.mp hN
    exact nodup_snoc q.2 q.1
theorem rot_mem {α : Type} {l : List α} {x : α} (h : x ∈ l.drop 1 ++ l.take 1) : x ∈ l := by
  rcases List.mem_append.mp h with h | h
  · exact List.mem_of_mem_drop h
  · exact List.mem_of_mem_take h
theorem rot_len {α : Type} (l : List α) : (l.drop 1 ++ l.take 1).length = l.length := by
  rw [List.length_append, List.length_drop, List.length_take]
  omega
theorem nms_rot {fs : List Str} (h : Nms fs) : Nms (fs.drop 1 ++ fs.take 1) := ⟨by rw [rot_len]; exact h.lo, by rw [rot_len]; exact h.hi, fun f m => h.nm f (rot_mem m), rot_nodup h.nd⟩
theorem nms_cut {fs : List Str} (h : Nms fs) (l : 1 < fs.length) : Nms (fs.take (fs.length - 1)) := by
  have q := h.hi
  refine ⟨?_, ?_, fun f m => h.nm f (List.mem_of_mem_take m), h.nd.sublist (List.take_sublist _ _)⟩ <;> rw [List.length_take] <;> omega
theorem ts_rot {ts : List Tab} (h : TsOk ts) : TsOk (ts.drop 1 ++ ts.take 1) := by
  refine ⟨by rw [rot_len]; exact h.lo, by rw [rot_len]; exact h.hi, fun t m => h.ok t (rot_mem m), ?_⟩
  rw [List.map_append, List.map_drop, List.map_take]
  exact rot_nodup h.nd
theorem ts_set {ts : List Tab} {i : Nat} {t u : Tab} (h : TsOk ts) (ht : ts[i]? = some t) (hu : TOk u) (hn : u.1 = t.1 ∨ u.1 ∉ ts.map (·.1)) (ne : u ≠ t) : TsOk (ts.set i u) ∧ ts.set i u ≠ ts := by
  have il : i < ts.length := (List.getElem?_eq_some_iff.mp ht).1
  refine ⟨⟨by rw [List.length_set]; exact h.lo, by rw [List.length_set]; exact h.hi, fun v m => ?_, ?_⟩, fun e => ?_⟩
  · rcases List.mem_or_eq_of_mem_set m with m | m
    · exact h.ok v m
    · rw [m]; exact hu
  · rw [List.map_set]
    rcases hn with hn | hn
    · have e : (ts.map (·.1)).set i u.1 = ts.map (·.1) := by
        rw [hn]
        refine List.ext_getElem? fun j => ?_
        rw [List.getElem?_set]
        by_cases z : i = j
        · subst z
          rw [if_pos rfl, List.length_map, if_pos il, List.getElem?_map, ht]
          rfl
        · rw [if_neg z]
      rw [e]
      exact h.nd
    · exact nodup_set h.nd hn
  · have q : (ts.set i u)[i]? = some u := by
      rw [List.getElem?_set, if_pos rfl, if_pos il]
    rw [e, ht] at q
    exact ne (Option.some.inj q).symm
theorem ts_cut {ts : List Tab} {i : Nat} (h : TsOk ts) (il : i < ts.length) (l : 1 < ts.length) : TsOk (ts.take i ++ ts.drop (i + 1)) ∧ ts.take i ++ ts.drop (i + 1) ≠ ts := by
  have e : ts.take i ++ ts.drop (i + 1) = ts.eraseIdx i := (List.eraseIdx_eq_take_drop_succ ts i).symm
  have len : (ts.eraseIdx i).length = ts.length - 1 := by rw [List.length_eraseIdx, if_pos il]
  rw [e]
  have q := h.hi
  refine ⟨⟨by omega, by omega, fun t m => h.ok t (List.mem_of_mem_eraseIdx m), ?_⟩, fun z => ?_⟩
  · exact h.nd.sublist ((List.eraseIdx_sublist ts i).map _)
  · rw [z] at len
    omega
theorem cutV_from (xs : List V) (k : Nat) (h : k ≤ xs.length) : cutV xs (some (k : Int)) none = xs.drop k := by
  unfold cutV
  rw [HT.sIx_none, HT.sIx_nat, Nat.min_eq_left h, List.take_of_length_le (by rw [List.length_drop]; omega)]
theorem cutV_last (xs : List V) (h : 1 ≤ xs.length) : cutV xs none (some (-1)) = xs.take (xs.length - 1) := by
  unfold cutV
  rw [HT.sIx_none, List.drop_zero, Nat.sub_zero]
  have e : HT.sIx xs.length xs.length (some (-1)) = xs.length - 1 := by
    show (if (-1 : Int) < 0 then ((-1 : Int) + (xs.length : Int)).toNat else min (-1 : Int).toNat xs.length) = xs.length - 1
    rw [if_pos (by decide)]
    omega
  rw [e]
theorem tb_set {K : PySem.W.Frag} {F0 F' : Hp} {xs : List V} {ts : List Tab} {i : Nat} {q : Addr} {v : V} {u : Tab} (dx : DpAll K F0 xs (ts.map (tabD false))) (s : Same F0 F') (il : i < ts.length) (he : Dp K F' v (tabD false u)) (hq : F' q = some (.lst (xs.take i ++ [v] ++ xs.drop (i + 1)))) : TbAt K F' q (ts.set i u) := by
  refine ⟨_, hq, ?_⟩
  rw [set_parts ts i u il, List.map_append, List.map_cons, List.map_drop, List.map_take, List.append_assoc]
  exact dpA_app (dpA_take i (dpA_mono s _ _ dx)) (.cons he (dpA_drop (i + 1) (dpA_mono s _ _ dx)))
section
variable {P : Program} {w : World} {K : PySem.W.Frag} {mg : Str → Option Value} {base : Heap} {CS : Addr}
def spChanged (K : PySem.W.Frag) : Sp := fun vs H Q _ => ∃ (F : Hp) (b p : Addr) (ts : List Tab), vs = [.ref b, .ref p] ∧ Bag F H b ∧ TbAt K F p ts ∧ TsOk ts ∧ ∀ (q : Addr) (us : List Tab) (F' H' : Hp), Bag F' H' b → Same F F' → TbAt K F' q us → TsOk us → us ≠ ts → Q (.ref q) H'
abbrev s_l_changed : Stmt := topS 28
abbrev sc_l_changedN : List Str := ["_law_bag_here", "_law_tables_here", "_law_at", "_law_name_here", "_law_fields", "_law_choice", "_law_table", "_law_taken"]
abbrev ps_l_changed : List Str := ["_law_bag_here", "_law_tables_here"]
theorem sc_l_changed : FnScope sc_l_changedN ps_l_changed (defScope s_l_changed) := ⟨rfl, rfl, rfl, by decide +kernel, rfl, by decide +kernel, by decide +kernel⟩
theorem ok_l_changed {f : Addr} {fd : FuncData} (F : Fun K "_law_changed" "_law_changed" s_l_changed f fd) (T : Txt K mg CS) (D_l_pick : Df P w K mg base "_law_pick" 1 ps_l_pick spPick) (D_l_name : Df P w K mg base "_law_name" 2 ps_l_name spName) :
    FnOk P w K mg base CX0 3 f fd ps_l_changed (spChanged K) := by
  refine F.ok sc_l_changed (fun vs H Q E h => ?_) (fun cdv A outer s H vs Q E hr h => ?_)
  · obtain ⟨_, _, _, _, rfl, _⟩ := h
    rfl
  · obtain ⟨F0, b, p, ts, rfl, B, ⟨xs, hp, dx⟩, ok, k⟩ := h
    have lx : xs.length = ts.length := by rw [dpA_len dx, List.length_map]
    have l5 := ok.hi
    have l1 := ok.lo
    refine ⟨_, (pss_cons (ps_set (i := 2) sc_l_changed.nd rfl (Or.inl rfl) (pe_d D_l_pick (hr.mono (by decide)) (pa_cons (pv 0) (pa_cons (pe_callB call_len_seq (by rfl) T.n_len (by decide +kernel) (pa_cons (pv 1) pa_nil)) pa_nil))))
  (pss_cons (ps_asg (pe_ix ix_list (pv 1) (pv 2) (fun _ _ => rfl)) (pg_tup (by rfl) (pgs_cons (pg_name (i := 3) sc_l_changed.nd rfl (Or.inl rfl)) (pgs_cons (pg_name (i := 4) sc_l_changed.nd rfl (Or.inl rfl)) pgs_nil))))
  (pss_cons (ps_set (i := 5) sc_l_changed.nd rfl (Or.inl rfl) (pe_d D_l_pick (hr.mono (by decide)) (pa_cons (pv 0) (pa_cons pe_int pa_nil))))
  (Evl.pss_cut (ps_if (PW.pt (pw_and (pt_cmpR op_eq (pv 5) pe_int (nomark _)) (pw_and1 (pt_cmpR op_gt (pe_callB call_len_seq (by rfl) T.n_len (by decide +kernel) (pa_cons (pv 1) pa_nil)) pe_int (nomark _)))))
    (pss_one (ps_ret (pe_op op_cat (pe_slice sl_list (pv 1) (po_some pe_int) po_none) (pe_slice sl_list (pv 1) po_none (po_some pe_int)))))
    pss_nil)
  (Evl.pss_cut (ps_if (PW.pt (pw_and (pt_cmpR op_eq (pv 5) pe_int (nomark _)) (pw_and1 (pt_cmpR op_gt (pe_callB call_len_seq (by rfl) T.n_len (by decide +kernel) (pa_cons (pv 4) pa_nil)) pe_int (nomark _)))))
    (pss_one (ps_ret (pe_op op_cat (pe_op op_cat (pe_slice sl_list (pv 1) po_none (po_some (pv 2))) (pe_lst (pa_cons (pe_tup (pa_cons (pv 3) (pa_cons (pe_op op_catT (pe_slice sl_tupA (pv 4) (po_some pe_int) po_none) (pe_slice sl_tupA (pv 4) po_none (po_some pe_int))) pa_nil))) pa_nil))) (pe_slice sl_list (pv 1) (po_some (pe_op op_add (pv 2) pe_int)) po_none))))
    pss_nil)
  (Evl.pss_cut (ps_if (PW.pt (pw_and (pt_cmpR op_eq (pv 5) pe_int (nomark _)) (pw_and1 (pt_cmpR op_gt (pe_callB call_len_seq (by rfl) T.n_len (by decide +kernel) (pa_cons (pv 4) pa_nil)) pe_int (nomark _)))))
    (pss_one (ps_ret (pe_op op_cat (pe_op op_cat (pe_slice sl_list (pv 1) po_none (po_some (pv 2))) (pe_lst (pa_cons (pe_tup (pa_cons (pv 3) (pa_cons (pe_slice sl_tupA (pv 4) po_none (po_some (pe_un un_neg pe_int))) pa_nil))) pa_nil))) (pe_slice sl_list (pv 1) (po_some (pe_op op_add (pv 2) pe_int)) po_none))))
    pss_nil)
  (Evl.pss_cut (ps_if (PW.pt (pw_and (pt_cmpR op_eq (pv 5) pe_int (nomark _)) (pw_and1 (pt_cmpR op_gt (pe_callB call_len_seq (by rfl) T.n_len (by decide +kernel) (pa_cons (pv 1) pa_nil)) pe_int (nomark _)))))
    (pss_one (ps_ret (pe_op op_cat (pe_slice sl_list (pv 1) po_none (po_some (pv 2))) (pe_slice sl_list (pv 1) (po_some (pe_op op_add (pv 2) pe_int)) po_none))))
    pss_nil)
  (pss_cons (ps_setLc (i := 7) (own := [("_law_table", 6)]) (g := gName 6) (tt := tYes) (by rfl) sc_l_changed.nd rfl rfl (sw_true rfl rfl rfl (by decide +kernel)) (pi_list (pv 1)) (blkOk_by (own := [("_law_table", 6)]) (N := sc_l_changedN) (sc := defScope s_l_changed) (by decide +kernel)) (fun _ _ _ _ _ => pg_name (i := 6) sc_l_changed.nd rfl (Or.inl rfl)) (fun _ _ _ _ _ => pts_nil) (fun _ _ _ _ _ => (pe_ix (ixK_tup (K := K)) (pv 6) pe_int (fun _ _ => rfl))))
  (pss_one (ps_ret (pe_op op_cat (pe_op op_cat (pe_slice sl_list (pv 1) po_none (po_some (pv 2))) (pe_lst (pa_cons (pe_tup (pa_cons (pe_d D_l_name (hr.mono (by decide)) (pa_cons (pv 0) (pa_cons (pv 7) pa_nil))) (pa_cons (pv 4) pa_nil))) pa_nil))) (pe_slice sl_list (pv 1) (po_some (pe_op op_add (pv 2) pe_int)) po_none)))))))))))), ?_⟩
    refine ⟨_, rfl, _, rfl, p, _, rfl, .inl (.inl (.inl (B.fh _ _ hp))), F0, b, _, rfl, by omega, by omega, B, fun r H1 r0 r1 B1 => ?_⟩
    obtain ⟨i, rfl⟩ : ∃ i : Nat, r = (i : Int) := ⟨r.toNat, by omega⟩
    have il : i < xs.length := by omega
    have hx : xs[i]? = some xs[i] := List.getElem?_eq_getElem il
    obtain ⟨c, hc, hxc⟩ := dpA_at dx hx
    rw [List.getElem?_map] at hc
    obtain ⟨t, ht, rfl⟩ := Option.map_eq_some_iff.mp hc
    have tok := ok.ok t (List.mem_of_getElem? ht)
    obtain ⟨u, r', eu, hu, _, _, hr2⟩ := tab_inv hxc
    have hr3 := hr2 rfl
    rw [eu] at hx
    refine ⟨_, rfl, _, rfl, p, _, _, _, rfl, rfl, .inl (.inl (B1.fh _ _ hp)), atI_nat hx, u, _, rfl, same_sqT B1.fh hu, rfl, _, _, rfl, _, _, rfl, rfl, ?_⟩
    refine ⟨_, rfl, F0, b, 4, rfl, by decide, by decide, B1, fun m H2 m0 m1 B2 => ?_⟩
    have hp2 := B2.fh _ _ hp
    have lf := tok.fs.hi
    have lf := tok.fs.hi
    have lfm : (t.2.map V.str).length = t.2.length := List.length_map _
    have x1 : cutV xs (some 1) none = xs.drop 1 := cutV_from xs 1 (by omega)
    have x2 : cutV xs none (some 1) = xs.take 1 := cutV_to xs 1
    have x3 : cutV xs none (some (i : Int)) = xs.take i := cutV_to xs i
    have x4 : cutV xs (some ((i : Int) + 1)) none = xs.drop (i + 1) := cutV_from xs (i + 1) (by omega)
    have len3 : ∀ ys zs : List V, ys.length ≤ 50 → zs.length ≤ 50 → ys.length + zs.length ≤ sizeLine := fun ys zs h1 h2 => Nat.le_trans (show ys.length + zs.length ≤ 100 by omega) (by decide)
    have xt : (xs.take i).length ≤ 5 := by rw [List.length_take]; omega
    have xd : (xs.drop (i + 1)).length ≤ 5 := by rw [List.length_drop]; omega
    have ilt : i < ts.length := by omega
    -- tables in another order
    refine ⟨fun σ' H' => σ' = [some (.ref b), some (.ref p), some (.int (i : Nat)), some (.str t.1), some (.ref r'), some (.int m), none, none] ∧ H2 = H', ?_, ?_⟩
    · refine ⟨_, rfl, rfl, _, rfl, ifd (fun _ => ?_) fun _ => iteF ⟨rfl, rfl⟩⟩
      refine ⟨_, rfl, p, xs, rfl, .inl (.inl (.inl hp2)), _, _, rfl, rfl, _, rfl, ifd (fun hl => ?_) fun _ => ⟨rfl, rfl⟩⟩
      have C0 := B2
      generalize H2 = G0 at *
      refine ⟨_, rfl, _, rfl, p, xs, rfl, .inl (.inl hp2), ?_⟩
      rw [x1]
      intro p0 h0
      obtain ⟨F1, C1, s1, e1, n1⟩ := bag_more (o := .lst (xs.drop 1)) C0 h0
      generalize upd G0 p0 (.lst (xs.drop 1)) = G1 at *
      refine ⟨_, rfl, _, rfl, p, xs, rfl, .inl (.inl (C1.fh _ _ (s1 _ _ hp))), ?_⟩
      rw [x2]
      intro p1 h1
      obtain ⟨F2, C2, s2, e2, n2⟩ := bag_more (o := .lst (xs.take 1)) C1 h1
      generalize upd G1 p1 (.lst (xs.take 1)) = G2 at *
      refine ⟨p0, p1, _, _, rfl, rfl, C2.fh _ _ (s2 _ _ e1), C2.fh _ _ e2, len3 _ _ (by rw [List.length_drop]; omega) (by rw [List.length_take]; omega), fun q hq => ?_⟩
      obtain ⟨F3, C3, s3, e3, n3⟩ := bag_more (o := .lst (xs.drop 1 ++ xs.take 1)) C2 hq
      have sF := s1.trans (s2.trans s3)
      refine k q (ts.drop 1 ++ ts.take 1) _ _ C3 sF ⟨_, e3, ?_⟩ (ts_rot ok) fun e => rot_ne (l := ts.map (·.1)) ok.nd (by rw [List.length_map]; omega) (by rw [← List.map_drop, ← List.map_take, ← List.map_append, e])
      rw [List.map_append, List.map_drop, List.map_take]
      exact dpA_mono sF _ _ (dpA_app (dpA_drop 1 dx) (dpA_take 1 dx))
    rintro σ' H' ⟨rfl, rfl⟩
    -- the fields of one table in another order
    refine ⟨fun σ' H' => σ' = [some (.ref b), some (.ref p), some (.int (i : Nat)), some (.str t.1), some (.ref r'), some (.int m), none, none] ∧ H2 = H', ?_, ?_⟩
    · refine ⟨_, rfl, rfl, _, rfl, ifd (fun _ => ?_) fun _ => iteF ⟨rfl, rfl⟩⟩
      refine ⟨_, rfl, r', _, rfl, .inr (same_sqT B2.fh hr3), _, _, rfl, rfl, _, rfl, ifd (fun hl => ?_) fun _ => ⟨rfl, rfl⟩⟩
      have hl2 : 1 < t.2.length := by omega
      have C0 := B2
      generalize H2 = G0 at *
      have y1 : cutV (t.2.map V.str) (some 1) none = (t.2.drop 1).map V.str := by rw [List.map_drop]; exact cutV_from _ 1 (by omega)
      have y2 : cutV (t.2.map V.str) none (some 1) = (t.2.take 1).map V.str := by rw [List.map_take]; exact cutV_to _ 1
      obtain ⟨g1, g2⟩ := ts_set (u := (t.1, t.2.drop 1 ++ t.2.take 1)) ok ht ⟨tok.nm, nms_rot tok.fs⟩ (.inl rfl) fun e => rot_ne tok.fs.nd hl2 (congrArg Prod.snd e)
      refine ⟨_, rfl, _, rfl, _, rfl, p, xs, rfl, .inl (.inl hp2), ?_⟩
      rw [x3]
      intro p0 h0
      obtain ⟨F1, C1, s1, e1, n1⟩ := bag_more (o := .lst (xs.take i)) C0 h0
      generalize upd G0 p0 (.lst (xs.take i)) = G1 at *
      refine ⟨_, rfl, _, rfl, _, rfl, r', _, rfl, same_sqT (s1.trans C1.fh) hr3, fun z => absurd z.1 (by rw [show HT.sIx (t.2.map V.str).length 0 (some 1) = min 1 (t.2.map V.str).length from HT.sIx_nat _ _ 1]; omega), fun _ => ?_⟩
      rw [y1]
      intro p1 h1
      obtain ⟨F2, C2, s2, e2, n2⟩ := bag_more (o := .tup ((t.2.drop 1).map V.str)) C1 h1
      generalize upd G1 p1 (.tup ((t.2.drop 1).map V.str)) = G2 at *
      refine ⟨_, rfl, _, rfl, r', _, rfl, same_sqT ((s1.trans s2).trans C2.fh) hr3, fun z => absurd z.2 (by rw [show HT.sIx (t.2.map V.str).length (t.2.map V.str).length (some 1) = min 1 (t.2.map V.str).length from HT.sIx_nat _ _ 1]; omega), fun _ => ?_⟩
      rw [y2]
      intro p2 h2
      obtain ⟨F3, C3, s3, e3, n3⟩ := bag_more (o := .tup ((t.2.take 1).map V.str)) C2 h2
      generalize upd G2 p2 (.tup ((t.2.take 1).map V.str)) = G3 at *
      refine ⟨p1, p2, _, _, rfl, rfl, .inl (.inl (C3.fh _ _ (s3 _ _ e2))), .inl (.inl (C3.fh _ _ e3)), fun z => ?_, len3 _ _ (by rw [List.length_map, List.length_drop]; omega) (by rw [List.length_map, List.length_take]; omega), fun z => ?_, fun _ => ?_⟩
      · have q := congrArg List.length z
        rw [List.length_map, List.length_drop] at q
        have q2 : t.2.length - 1 = 0 := q
        omega
      · have q := congrArg List.length z
        rw [List.length_map, List.length_take] at q
        have q2 : min 1 t.2.length = 0 := q
        omega
      rw [← List.map_append]
      intro p3 h3
      obtain ⟨F4, C4, s4, e4, n4⟩ := bag_more (o := .tup ((t.2.drop 1 ++ t.2.take 1).map V.str)) C3 h3
      generalize upd G3 p3 (.tup ((t.2.drop 1 ++ t.2.take 1).map V.str)) = G4 at *
      refine ⟨(by show 2 ≤ sizeLine; decide), fun p4 h4 => ?_⟩
      obtain ⟨F5, C5, s5, e5, n5⟩ := bag_more (o := .tup [.str t.1, .ref p3]) C4 h4
      generalize upd G4 p4 (.tup [.str t.1, .ref p3]) = G5 at *
      refine ⟨(by show 1 ≤ sizeLine; decide), fun p5 h5 => ?_⟩
      obtain ⟨F6, C6, s6, e6, n6⟩ := bag_more (o := .lst [.ref p4]) C5 h5
      generalize upd G5 p5 (.lst [.ref p4]) = G6 at *
      refine ⟨p0, p5, _, _, rfl, rfl, C6.fh _ _ (s6 _ _ (s5 _ _ (s4 _ _ (s3 _ _ (s2 _ _ e1))))), C6.fh _ _ e6, len3 _ _ (by omega) (by show 1 ≤ 50; decide), fun p6 h6 => ?_⟩
      obtain ⟨F7, C7, s7, e7, n7⟩ := bag_more (o := .lst (xs.take i ++ [.ref p4])) C6 h6
      generalize upd G6 p6 (.lst (xs.take i ++ [.ref p4])) = G7 at *
      have sX : Same F0 F7 := ((((((s1.trans s2).trans s3).trans s4).trans s5).trans s6).trans s7)
      refine ⟨_, rfl, _, rfl, _, _, rfl, rfl, _, rfl, p, xs, rfl, .inl (.inl (C7.fh _ _ (sX _ _ hp))), ?_⟩
      rw [x4]
      intro p7 h7
      obtain ⟨F8, C8, s8, e8, n8⟩ := bag_more (o := .lst (xs.drop (i + 1))) C7 h7
      generalize upd G7 p7 (.lst (xs.drop (i + 1))) = G8 at *
      refine ⟨p6, p7, _, _, rfl, rfl, C8.fh _ _ (s8 _ _ e7), C8.fh _ _ e8, len3 _ _ (by rw [List.length_append]; show (xs.take i).length + 1 ≤ 50; omega) (by omega), fun q hq => ?_⟩
      obtain ⟨F9, C9, s9, e9, n9⟩ := bag_more (o := .lst (xs.take i ++ [.ref p4] ++ xs.drop (i + 1))) C8 hq
      have sY : Same F0 F9 := (sX.trans s8).trans s9
      have pair := (s9 _ _ (s8 _ _ (s7 _ _ (s6 _ _ e5))))
      have flds : SqT K F9 p3 ((t.2.drop 1 ++ t.2.take 1).map V.str) := .inl (.inl (s9 _ _ (s8 _ _ (s7 _ _ (s6 _ _ (s5 _ _ e4))))))
      exact k q (ts.set i (t.1, t.2.drop 1 ++ t.2.take 1)) _ _ C9 sY (tb_set (u := (t.1, t.2.drop 1 ++ t.2.take 1)) dx sY ilt (.tup (.inl (.inl pair)) (.cons (.str _) (.cons (.tup flds (dpA_strs (t.2.drop 1 ++ t.2.take 1))) .nil))) e9) g1 g2
    rintro σ' H' ⟨rfl, rfl⟩
    -- one field less
    refine ⟨fun σ' H' => σ' = [some (.ref b), some (.ref p), some (.int (i : Nat)), some (.str t.1), some (.ref r'), some (.int m), none, none] ∧ H2 = H', ?_, ?_⟩
    · refine ⟨_, rfl, rfl, _, rfl, ifd (fun _ => ?_) fun _ => iteF ⟨rfl, rfl⟩⟩
      refine ⟨_, rfl, r', _, rfl, .inr (same_sqT B2.fh hr3), _, _, rfl, rfl, _, rfl, ifd (fun hl => ?_) fun _ => ⟨rfl, rfl⟩⟩
      have hl2 : 1 < t.2.length := by omega
      have C0 := B2
      generalize H2 = G0 at *
      have y3 : cutV (t.2.map V.str) none (some (-1)) = (t.2.take (t.2.length - 1)).map V.str := by
        rw [List.map_take, cutV_last _ (by omega), lfm]
      obtain ⟨g1, g2⟩ := ts_set (u := (t.1, t.2.take (t.2.length - 1))) ok ht ⟨tok.nm, nms_cut tok.fs hl2⟩ (.inl rfl) fun e => by
        have q := congrArg (fun u : Tab => u.2.length) e
        have q2 : (t.2.take (t.2.length - 1)).length = t.2.length := q
        rw [List.length_take] at q2
        omega
      refine ⟨_, rfl, _, rfl, _, rfl, p, xs, rfl, .inl (.inl hp2), ?_⟩
      rw [x3]
      intro p0 h0
      obtain ⟨F1, C1, s1, e1, n1⟩ := bag_more (o := .lst (xs.take i)) C0 h0
      generalize upd G0 p0 (.lst (xs.take i)) = G1 at *
      refine ⟨_, rfl, _, rfl, _, rfl, _, rfl, r', _, rfl, same_sqT (s1.trans C1.fh) hr3, fun z => absurd z.2 ?_, fun _ => ?_⟩
      · show ¬ (if (-1 : Int) < 0 then ((-1 : Int) + ((t.2.map V.str).length : Int)).toNat else min (-1 : Int).toNat (t.2.map V.str).length) = (t.2.map V.str).length
        rw [if_pos (by decide)]
        omega
      show ∀ p, G1 p = none → _
      intro p1 h1
      have y3' : cutV (t.2.map V.str) none (some ((fun i : Int => -i) 1)) = (t.2.take (t.2.length - 1)).map V.str := y3
      obtain ⟨F2, C2, s2, e2, n2⟩ := bag_more (o := .tup ((t.2.take (t.2.length - 1)).map V.str)) C1 h1
      have eG : upd G1 p1 (.tup (cutV (t.2.map V.str) none (some (-1)))) = upd G1 p1 (.tup ((t.2.take (t.2.length - 1)).map V.str)) := by rw [y3]
      rw [eG]
      generalize upd G1 p1 (.tup ((t.2.take (t.2.length - 1)).map V.str)) = G2 at *
      refine ⟨(by show 2 ≤ sizeLine; decide), fun p2 h2 => ?_⟩
      obtain ⟨F3, C3, s3, e3, n3⟩ := bag_more (o := .tup [.str t.1, .ref p1]) C2 h2
      generalize upd G2 p2 (.tup [.str t.1, .ref p1]) = G3 at *
      refine ⟨(by show 1 ≤ sizeLine; decide), fun p3 h3 => ?_⟩
      obtain ⟨F4, C4, s4, e4, n4⟩ := bag_more (o := .lst [.ref p2]) C3 h3
      generalize upd G3 p3 (.lst [.ref p2]) = G4 at *
      refine ⟨p0, p3, _, _, rfl, rfl, C4.fh _ _ (s4 _ _ (s3 _ _ (s2 _ _ e1))), C4.fh _ _ e4, len3 _ _ (by omega) (by show 1 ≤ 50; decide), fun p4 h4 => ?_⟩
      obtain ⟨F5, C5, s5, e5, n5⟩ := bag_more (o := .lst (xs.take i ++ [.ref p2])) C4 h4
      generalize upd G4 p4 (.lst (xs.take i ++ [.ref p2])) = G5 at *
      have sX : Same F0 F5 := ((((s1.trans s2).trans s3).trans s4).trans s5)
      refine ⟨_, rfl, _, rfl, _, _, rfl, rfl, _, rfl, p, xs, rfl, .inl (.inl (C5.fh _ _ (sX _ _ hp))), ?_⟩
      rw [x4]
      intro p5 h5
      obtain ⟨F6, C6, s6, e6, n6⟩ := bag_more (o := .lst (xs.drop (i + 1))) C5 h5
      generalize upd G5 p5 (.lst (xs.drop (i + 1))) = G6 at *
      refine ⟨p4, p5, _, _, rfl, rfl, C6.fh _ _ (s6 _ _ e5), C6.fh _ _ e6, len3 _ _ (by rw [List.length_append]; show (xs.take i).length + 1 ≤ 50; omega) (by omega), fun q hq => ?_⟩
      obtain ⟨F7, C7, s7, e7, n7⟩ := bag_more (o := .lst (xs.take i ++ [.ref p2] ++ xs.drop (i + 1))) C6 hq
      have sY : Same F0 F7 := (sX.trans s6).trans s7
      have pair := (s7 _ _ (s6 _ _ (s5 _ _ (s4 _ _ e3))))
      have flds : SqT K F7 p1 ((t.2.take (t.2.length - 1)).map V.str) := .inl (.inl (s7 _ _ (s6 _ _ (s5 _ _ (s4 _ _ (s3 _ _ e2))))))
      exact k q (ts.set i (t.1, t.2.take (t.2.length - 1))) _ _ C7 sY (tb_set (u := (t.1, t.2.take (t.2.length - 1))) dx sY ilt (.tup (.inl (.inl pair)) (.cons (.str _) (.cons (.tup flds (dpA_strs (t.2.take (t.2.length - 1)))) .nil))) e7) g1 g2
    rintro σ' H' ⟨rfl, rfl⟩
    -- one table less
    refine ⟨fun σ' H' => σ' = [some (.ref b), some (.ref p), some (.int (i : Nat)), some (.str t.1), some (.ref r'), some (.int m), none, none] ∧ H2 = H', ?_, ?_⟩
    · refine ⟨_, rfl, rfl, _, rfl, ifd (fun _ => ?_) fun _ => iteF ⟨rfl, rfl⟩⟩
      refine ⟨_, rfl, p, xs, rfl, .inl (.inl (.inl hp2)), _, _, rfl, rfl, _, rfl, ifd (fun hl => ?_) fun _ => ⟨rfl, rfl⟩⟩
      have C0 := B2
      generalize H2 = G0 at *
      obtain ⟨g1, g2⟩ := ts_cut (i := i) ok ilt (by omega)
      refine ⟨_, rfl, _, rfl, _, rfl, p, xs, rfl, .inl (.inl hp2), ?_⟩
      rw [x3]
      intro p0 h0
      obtain ⟨F1, C1, s1, e1, n1⟩ := bag_more (o := .lst (xs.take i)) C0 h0
      generalize upd G0 p0 (.lst (xs.take i)) = G1 at *
      refine ⟨_, rfl, _, rfl, _, _, rfl, rfl, _, rfl, p, xs, rfl, .inl (.inl (C1.fh _ _ (s1 _ _ hp))), ?_⟩
      rw [x4]
      intro p1 h1
      obtain ⟨F2, C2, s2, e2, n2⟩ := bag_more (o := .lst (xs.drop (i + 1))) C1 h1
      generalize upd G1 p1 (.lst (xs.drop (i + 1))) = G2 at *
      refine ⟨p0, p1, _, _, rfl, rfl, C2.fh _ _ (s2 _ _ e1), C2.fh _ _ e2, len3 _ _ (by omega) (by omega), fun q hq => ?_⟩
      obtain ⟨F3, C3, s3, e3, n3⟩ := bag_more (o := .lst (xs.take i ++ xs.drop (i + 1))) C2 hq
      have sF := s1.trans (s2.trans s3)
      refine k q _ _ _ C3 sF ⟨_, e3, ?_⟩ g1 g2
      rw [List.map_append, List.map_drop, List.map_take]
      exact dpA_mono sF _ _ (dpA_app (dpA_take i dx) (dpA_drop (i + 1) dx))
    rintro σ' H' ⟨rfl, rfl⟩
    -- another name
    refine ⟨_, rfl, p, rfl, ⟨_, .inl (.inl hp2)⟩, fun D hD => lc_list (K := K) (a := p) (xs := xs) (fun j H' => Same H2 H' ∧ H' D = some (.lst (((ts.map (·.1)).take j).map V.str))) ⟨same_new _ hD, by rw [upd_same]; rfl⟩ (fun j H' _ z => .inl (.inl (z.1 _ _ hp2))) ?_ ?_⟩
    · rintro j x H3 hxj ⟨s3, d3⟩
      obtain ⟨c, hc, hxc⟩ := dpA_at dx hxj
      rw [List.getElem?_map] at hc
      obtain ⟨t2, ht2, rfl⟩ := Option.map_eq_some_iff.mp hc
      obtain ⟨u2, r2, rfl, hu2, _⟩ := tab_inv hxc
      have hn : (ts.map (·.1))[j]? = some t2.1 := by rw [List.getElem?_map, ht2]; rfl
      refine ⟨rfl, _, rfl, u2, _, 0, _, rfl, rfl, same_sqT (B2.fh.trans s3) hu2, rfl, _, d3, take_lt _ (by rw [List.length_map]; omega), same_put s3 _ hD, ?_⟩
      rw [upd_same, map_take _ hn]
    · rintro H3 ⟨s3, d3⟩
      have fr : Fresh H2 H3 (upd nil0 D (.lst ((ts.map (·.1)).map V.str))) := fun a o e => by
        by_cases z : a = D
        · subst z
          rw [upd_same] at e
          cases e
          rw [lx, ← List.length_map (f := fun x : Tab => x.1), List.take_length] at d3
          exact ⟨hD, d3⟩
        · rw [upd_ne z] at e
          cases e
      have C0 := B2.grow (grow_fresh B2.fh s3 fr)
      have s0 : Same F0 (uni F0 (upd nil0 D (.lst ((ts.map (·.1)).map V.str)))) := same_uni
      have eD : uni F0 (upd nil0 D (.lst ((ts.map (·.1)).map V.str))) D = some (.lst ((ts.map (·.1)).map V.str)) := same_grow B2.fh fr _ _ upd_same
      have fD : F0 D = none := B2.fh.free hD
      generalize uni F0 (upd nil0 D (.lst ((ts.map (·.1)).map V.str))) = Fa at *
      have hp3 := C0.fh _ _ (s0 _ _ hp)
      generalize H3 = G0 at *
      refine ⟨_, rfl, _, rfl, _, rfl, p, xs, rfl, .inl (.inl hp3), ?_⟩
      rw [x3]
      intro p0 h0
      obtain ⟨F1, C1, s1, e1, n1⟩ := bag_more (o := .lst (xs.take i)) C0 h0
      generalize upd G0 p0 (.lst (xs.take i)) = G1 at *
      refine ⟨_, rfl, _, rfl, F1, b, D, ts.map (·.1), rfl, C1, s1 _ _ eD, by rw [List.length_map]; omega, fun n G2 gn nn C2 => ?_⟩
      have npD : p0 ≠ D := fun z => by rw [z, eD] at n1; cases n1
      have e2 : (upd F1 D (.lst ((ts.map (·.1) ++ [n]).map V.str))) p0 = some (.lst (xs.take i)) := by rw [upd_ne npD]; exact e1
      have s2 : Same F0 (upd F1 D (.lst ((ts.map (·.1) ++ [n]).map V.str))) := same_put (s0.trans s1) _ fD
      generalize upd F1 D (.lst ((ts.map (·.1) ++ [n]).map V.str)) = F2 at *
      have tm : t.1 ∈ ts.map (·.1) := List.mem_map.mpr ⟨t, List.mem_of_getElem? ht, rfl⟩
      obtain ⟨g1, g2⟩ := ts_set (u := (n, t.2)) ok ht ⟨gn, tok.fs⟩ (.inr nn) fun e => nn (by have z : n = t.1 := congrArg Prod.fst e; rw [z]; exact tm)
      refine ⟨_, rfl, ?_⟩
      refine ⟨(by show 2 ≤ sizeLine; decide), fun p2 h2 => ?_⟩
      obtain ⟨F3, C3, s3, e3, n3⟩ := bag_more (o := .tup [.str n, .ref r']) C2 h2
      generalize upd G2 p2 (.tup [.str n, .ref r']) = G3 at *
      refine ⟨(by show 1 ≤ sizeLine; decide), fun p3 h3 => ?_⟩
      obtain ⟨F4, C4, s4, e4, n4⟩ := bag_more (o := .lst [.ref p2]) C3 h3
      generalize upd G3 p3 (.lst [.ref p2]) = G4 at *
      refine ⟨p0, p3, _, _, rfl, rfl, C4.fh _ _ (s4 _ _ (s3 _ _ e2)), C4.fh _ _ e4, len3 _ _ (by omega) (by show 1 ≤ 50; decide), fun p4 h4 => ?_⟩
      obtain ⟨F5, C5, s5, e5, n5⟩ := bag_more (o := .lst (xs.take i ++ [.ref p2])) C4 h4
      generalize upd G4 p4 (.lst (xs.take i ++ [.ref p2])) = G5 at *
      have sX : Same F0 F5 := (((s2.trans s3).trans s4).trans s5)
      refine ⟨_, rfl, _, rfl, _, _, rfl, rfl, _, rfl, p, xs, rfl, .inl (.inl (C5.fh _ _ (sX _ _ hp))), ?_⟩
      rw [x4]
      intro p5 h5
      obtain ⟨F6, C6, s6, e6, n6⟩ := bag_more (o := .lst (xs.drop (i + 1))) C5 h5
      generalize upd G5 p5 (.lst (xs.drop (i + 1))) = G6 at *
      refine ⟨p4, p5, _, _, rfl, rfl, C6.fh _ _ (s6 _ _ e5), C6.fh _ _ e6, len3 _ _ (by rw [List.length_append]; show (xs.take i).length + 1 ≤ 50; omega) (by omega), fun q hq => ?_⟩
      obtain ⟨F7, C7, s7, e7, n7⟩ := bag_more (o := .lst (xs.take i ++ [.ref p2] ++ xs.drop (i + 1))) C6 hq
      have sY : Same F0 F7 := (sX.trans s6).trans s7
      have pair := (s7 _ _ (s6 _ _ (s5 _ _ (s4 _ _ e3))))
      have flds : SqT K F7 r' ((t.2).map V.str) := same_sqT sY hr3
      exact k q (ts.set i (n, t.2)) _ _ C7 sY (tb_set (u := (n, t.2)) dx sY ilt (.tup (.inl (.inl pair)) (.cons (.str _) (.cons (.tup flds (dpA_strs (t.2))) .nil))) e7) g1 g2
end
end Fm

/-! ## K01L -/
set_option Elab.async false
set_option maxRecDepth 100000
set_option maxHeartbeats 8000000
namespace Fm
open PySem L2
section
variable {K : PySem.W.Frag} {CS : Addr}
theorem same_two {F G H : Hp} (s : Same F H) (t : Same G H) : Same G (uni F G) := fun a o e => by
  unfold uni
  cases q : F a with
  | none => exact e
  | some u =>
    have z := s a u q
    rw [t a o e] at z
    exact z.symm
/-- what a made shape adds -/
theorem shape_new {H1 H' N : Hp} {x dx : Addr} {v : V} {ts : List Tab} (nx : H1 x = none) (nd : H1 dx = none) (ne : dx ≠ x)
    (h1 : ∀ c o, c ≠ x → (upd (upd H1 dx (.own x)) x (.ins CS dx [])) c = some o → H' c = some o) (h2 : H' x = some (.ins CS dx (shF v)))
    (h3 : ∀ c o, N c = some o → (upd (upd H1 dx (.own x)) x (.ins CS dx [])) c = none ∧ H' c = some o) (h4 : Dp K N v (.tuple (ts.map (tabD false)))) :
    ∃ M, Fresh H1 H' M ∧ Same H1 H' ∧ ShAt K CS M x ts := by
  have nN : N x = none := by
    cases q : N x with
    | none => rfl
    | some o =>
      have z := (h3 x o q).1
      rw [upd_same] at z
      cases z
  refine ⟨upd N x (.ins CS dx (shF v)), fun a o e => ?_, fun a o e => ?_, dx, v, upd_same, dp_mono (fun a o e => ?_) _ _ h4⟩
  · by_cases z : a = x
    · subst z
      rw [upd_same] at e
      cases e
      exact ⟨nx, h2⟩
    · rw [upd_ne z] at e
      obtain ⟨q1, q2⟩ := h3 a o e
      rw [upd_ne z] at q1
      by_cases y : a = dx
      · rw [y, upd_same] at q1
        cases q1
      · rw [upd_ne y] at q1
        exact ⟨q1, q2⟩
  · have n1 : a ≠ x := ne_of_none e nx
    refine h1 a o n1 ?_
    rw [upd_ne n1, upd_ne (ne_of_none e nd)]
    exact e
  · rw [upd_ne (ne_of_none e nN)]
    exact e
theorem same_make {H1 : Hp} {x dx : Addr} (nx : H1 x = none) (nd : H1 dx = none) : Same H1 (upd (upd H1 dx (.own x)) x (.ins CS dx [])) := fun a o e => by
  rw [upd_ne (ne_of_none e nx), upd_ne (ne_of_none e nd)]
  exact e
/-- a row that is handed in is the tree of its tables -/
theorem hand_tree {F G : Hp} {q : Addr} {xs : List V} {ts : List Tab} (s : Same F G) (hq : G q = some (.lst xs) ∨ G q = some (.tup xs)) (hp : Paired (Hd K F G) xs ts) (ok : TsOk ts) : ∃ d ds, (d = .list ds ∧ SqL K G q xs ∨ d = .tuple ds ∧ SqT K G q xs) ∧ DpAll K G xs ds ∧ TabsD ds ts ∧ Dp K G (.ref q) d ∧ Dn 4 d := by
  obtain ⟨ds, ha, td⟩ := hdA_dp s hp
  have l : ds.length ≤ 100000 := by have z := Paired.length td; have y := ok.hi; omega
  rcases hq with hq | hq
  · exact ⟨.list ds, ds, .inl ⟨rfl, .inl (.inl hq)⟩, ha, td, .lst (.inl (.inl hq)) ha, .list 3 _ (td.dn ok.ok) l⟩
  · exact ⟨.tuple ds, ds, .inr ⟨rfl, .inl (.inl hq)⟩, ha, td, .tup (.inl (.inl hq)) ha, .tuple 3 _ (td.dn ok.ok) l⟩
theorem hand_refs {F G : Hp} {xs : List V} {ts : List Tab} (hp : Paired (Hd K F G) xs ts) (l : 1 ≤ ts.length) (ys : List Str) : xs ≠ ys.map V.str := fun e => by
  cases hp with
  | nil => cases l
  | cons r _ =>
    obtain ⟨p, _, rfl, _⟩ := r
    cases ys with
    | nil => cases e
    | cons y ys => cases e
theorem paired_at {α β : Type} {R : α → β → Prop} : ∀ {xs : List α} {ys : List β} {i : Nat} {x : α}, Paired R xs ys → xs[i]? = some x → ∃ y, ys[i]? = some y ∧ R x y
  | _, _, _, _, .nil, e => by simp at e
  | _, _, 0, _, .cons r _, e => by
    simp at e
    subst e
    exact ⟨_, rfl, r⟩
  | _, _, i + 1, x, .cons _ t, e => by
    obtain ⟨y, h1, h2⟩ := paired_at (i := i) (x := x) t (by simpa using e)
    exact ⟨y, by simpa using h1, h2⟩
theorem paired_mem {α β : Type} {R : α → β → Prop} {Q : β → Prop} : ∀ {xs : List α} {ys : List β}, Paired R xs ys → (∀ y ∈ ys, Q y) → Paired (fun x y => R x y ∧ Q y) xs ys
  | _, _, .nil, _ => .nil
  | _, _, .cons r t, h => .cons ⟨r, h _ (List.mem_cons_self ..)⟩ (paired_mem t fun y hy => h y (List.mem_cons_of_mem _ hy))
/-- a row that was handed in, as it may be changed: its lists hold whatever -/
def Loose (K : PySem.W.Frag) (A F : Hp) (q : Addr) (n : Nat) (v : V) (t : Tab) : Prop := ∃ p r, v = .ref p ∧ A p = none ∧ F p = some (.tup [.str t.1, .ref r]) ∧ ((A r = none ∧ r ≠ q ∧ ∃ zs, F r = some (.lst zs) ∧ zs.length ≤ n) ∨ SqT K A r (t.2.map V.str))
theorem loose_up {A F : Hp} {q : Addr} {n : Nat} {v : V} {t : Tab} (h : Loose K A F q n v t) : Loose K A F q (n + 1) v t := by
  obtain ⟨p, r, e, n1, g1, ⟨g2, g3, zs, g4, g5⟩ | g2⟩ := h
  · exact ⟨p, r, e, n1, g1, .inl ⟨g2, g3, zs, g4, Nat.le_succ_of_le g5⟩⟩
  · exact ⟨p, r, e, n1, g1, .inr g2⟩
theorem loose_put {A F : Hp} {q r : Addr} {n : Nat} {v : V} {t : Tab} {us ws : List V} (h : Loose K A F q n v t) (fr : F r = some (.lst us)) (l : ws.length ≤ n + 1) : Loose K A (upd F r (.lst ws)) q (n + 1) v t := by
  obtain ⟨p, r2, e, n1, g1, g⟩ := h
  have np : p ≠ r := fun y => by
    rw [y, fr] at g1
    cases g1
  refine ⟨p, r2, e, n1, by rw [upd_ne np]; exact g1, ?_⟩
  rcases g with ⟨g2, g3, zs, g4, g5⟩ | g2
  · by_cases y : r2 = r
    · subst y
      exact .inl ⟨g2, g3, ws, upd_same, l⟩
    · exact .inl ⟨g2, g3, zs, by rw [upd_ne y]; exact g4, Nat.le_succ_of_le g5⟩
  · exact .inr g2
theorem eq_same {mg : Str → Option Value} (T : Txt K mg CS) {H : Hp} {x y : Addr} {ts : List Tab} {Q : VK} (h1 : ShAt K CS H x ts) (h2 : ShAt K CS H y ts) (o : ∀ t ∈ ts, TOk t) (k : Q (.bl true) H) : rEqI K CS (spShEq K CS) (.ref x) (.ref y) H Q := by
  obtain ⟨dx, v, hx, _⟩ := id h1
  obtain ⟨dy, u, hy, _⟩ := id h2
  refine ⟨x, dx, _, .ref CS, rfl, hx, .base (.ins hy T.cl T.c_cls T.c_get T.c_tak T.c_mro), ?_, x, .ref y, ts, rfl, h1, o, .inl ⟨y, ts, rfl, h2, o, _, rfl, ?_⟩⟩
  · show (Value.ref CS == Value.ref CS || _) = true
    rw [beq_self_eq_true]
    rfl
  · rw [decide_eq_true rfl]
    exact k
theorem eq_diff {mg : Str → Option Value} (T : Txt K mg CS) {H : Hp} {x y : Addr} {ts us : List Tab} {Q : VK} (h1 : ShAt K CS H x ts) (h2 : ShAt K CS H y us) (o : ∀ t ∈ ts, TOk t) (o2 : ∀ t ∈ us, TOk t) (n : ts ≠ us) (k : Q (.bl false) H) : rEqI K CS (spShEq K CS) (.ref x) (.ref y) H Q := by
  obtain ⟨dx, v, hx, _⟩ := id h1
  obtain ⟨dy, u, hy, _⟩ := id h2
  refine ⟨x, dx, _, .ref CS, rfl, hx, .base (.ins hy T.cl T.c_cls T.c_get T.c_tak T.c_mro), ?_, x, .ref y, ts, rfl, h1, o, .inl ⟨y, us, rfl, h2, o2, _, rfl, ?_⟩⟩
  · show (Value.ref CS == Value.ref CS || _) = true
    rw [beq_self_eq_true]
    rfl
  · rw [decide_eq_false n]
    exact k
theorem eq_no {mg : Str → Option Value} (T : Txt K mg CS) {H : Hp} {x : Addr} {y : V} {ts : List Tab} {Q : VK} (h1 : ShAt K CS H x ts) (o : ∀ t ∈ ts, TOk t) (h2 : ∃ n ∈ shTys, TyX K H y (.type n)) (k : Q (.bl false) H) : rEqI K CS (spShEq K CS) (.ref x) y H Q := by
  obtain ⟨dx, v, hx, _⟩ := id h1
  obtain ⟨n, hn, ty⟩ := h2
  exact ⟨x, dx, _, .type n, rfl, hx, ty, T.c_nf n hn, x, y, ts, rfl, h1, o, .inr ⟨n, hn, ty, _, rfl, k⟩⟩
theorem eq_noC {mg : Str → Option Value} (T : Txt K mg CS) {σ : L2.St} {H : Hp} {x : Addr} {y : V} {ts : List Tab} {Q : VK} (h1 : ShAt K CS H x ts) (o : ∀ t ∈ ts, TOk t) (h2 : ∃ n ∈ shTys, TyX K H y (.type n)) (k : Q (.bl false) H) : tC y σ H fun z H2 => rEqI K CS (spShEq K CS) (.ref x) z H2 Q := eq_no T h1 o h2 k
theorem ne_same {H : Hp} {x y : Addr} {ts : List Tab} {Q : VK} (h1 : ShAt K CS H x ts) (h2 : ShAt K CS H y ts) (o : ∀ t ∈ ts, TOk t) (k : Q (.bl false) H) : rNeI CS (spShEq K CS) (.ref x) (.ref y) H Q := by
  obtain ⟨dx, v, hx, _⟩ := id h1
  obtain ⟨dy, u, hy, _⟩ := id h2
  refine ⟨x, y, dx, dy, _, _, rfl, rfl, hx, hy, x, .ref y, ts, rfl, h1, o, .inl ⟨y, ts, rfl, h2, o, _, rfl, ?_⟩⟩
  rw [decide_eq_true rfl]
  exact k
theorem ne_diff {H : Hp} {x y : Addr} {ts us : List Tab} {Q : VK} (h1 : ShAt K CS H x ts) (h2 : ShAt K CS H y us) (o : ∀ t ∈ ts, TOk t) (o2 : ∀ t ∈ us, TOk t) (n : ts ≠ us) (k : Q (.bl true) H) : rNeI CS (spShEq K CS) (.ref x) (.ref y) H Q := by
  obtain ⟨dx, v, hx, _⟩ := id h1
  obtain ⟨dy, u, hy, _⟩ := id h2
  refine ⟨x, y, dx, dy, _, _, rfl, rfl, hx, hy, x, .ref y, ts, rfl, h1, o, .inl ⟨y, us, rfl, h2, o2, _, rfl, ?_⟩⟩
  rw [decide_eq_false n]
  exact k
theorem tup_lst {H : Hp} {a : Addr} {xs : List V} (h : SqT K H a xs) : ∃ n, TyX K H (.ref a) (.type n) ∧ PySem.W.kitOne K (.type n) (.type "list") = some false := by
  have k : PySem.W.kitOne K (.type "tuple") (.type "list") = some false := kit_ty (by decide +kernel)
  rcases h with (h | ⟨o, h⟩) | ⟨o, its, n, h, hc, _⟩
  · exact ⟨_, .base (.tup h), k⟩
  · exact ⟨_, .fTuple h, k⟩
  · exact ⟨_, .kTuple h hc, k⟩
theorem sqt_ty {H : Hp} {a : Addr} {xs : List V} (h : SqT K H a xs) : TyX K H (.ref a) (.type "tuple") := by
  rcases h with (h | ⟨o, h⟩) | ⟨o, its, n, h, hc, _⟩
  · exact .base (.tup h)
  · exact .fTuple h
  · exact .kTuple h hc
theorem dp_tup {H : Hp} {v : V} {ds : List PyData} (h : Dp K H v (.tuple ds)) : ∃ a xs, v = .ref a ∧ SqT K H a xs ∧ DpAll K H xs ds := by
  cases h with
  | tup h1 h2 => exact ⟨_, _, rfl, h1, h2⟩
theorem dpA_head {H : Hp} {xs : List V} {ds : List PyData} {d : PyData} (h : DpAll K H xs ds) (e : ds[0]? = some d) : ∃ u rest, xs = u :: rest ∧ Dp K H u d := by
  cases h with
  | nil => cases e
  | cons h1 h2 =>
    cases e
    exact ⟨_, _, rfl, h1⟩
theorem kn_mono {F F' : Hp} {v : V} (s : Same F F') (h : Kn F v) : Kn F' v := by
  rcases h with h | ⟨a, e, ⟨xs, h⟩ | ⟨xs, h⟩ | ⟨xs, h⟩⟩
  · exact .inl h
  · exact .inr ⟨a, e, .inl ⟨xs, s _ _ h⟩⟩
  · exact .inr ⟨a, e, .inr (.inl ⟨xs, s _ _ h⟩)⟩
  · exact .inr ⟨a, e, .inr (.inr ⟨xs, s _ _ h⟩)⟩
/-- a shape is made of tables that are handed in -/
theorem hand_shape {F1 F2 H : Hp} {b q x dx : Addr} {ts : List Tab} {R : Hp → Prop} {E : XK} (s12 : Same F1 F2) (B3 : Bag F2 H b) (hand : HandAt K F1 F2 q ts) (ok : TsOk ts) (nx : H x = none) (nd : H dx = none) (ne : dx ≠ x)
    (k : ∀ FB H', Bag FB H' b → Same F1 FB → ShAt K CS FB x ts → R H') : spShInit K CS [.ref x, .ref q] (upd (upd H dx (.own x)) x (.ins CS dx [])) (fun z H' => z = .non ∧ R H') E := by
  obtain ⟨fq, xs, hq, hpd⟩ := hand
  obtain ⟨d, ds, hd, ha, td, hdp, hdn⟩ := hand_tree s12 hq hpd ok
  have sm : Same F2 (upd (upd H dx (.own x)) x (.ins CS dx [])) := B3.fh.trans (same_make nx nd)
  refine ⟨x, dx, q, xs, d, ds, ts, rfl, upd_same, hd.elim (fun z => .inl ⟨z.1, sm.seq z.2⟩) (fun z => .inr ⟨z.1, same_sqT sm z.2⟩), dpA_mono sm _ _ ha, td, ok, fun v H5 N h1 h2 h3 h4 => ⟨rfl, ?_⟩⟩
  obtain ⟨M, frM, s5, shM⟩ := shape_new nx nd ne h1 h2 h3 h4
  exact k (uni F1 M) H5 ((bag_sub s12 B3).grow (grow_fresh (s12.trans B3.fh) s5 frM)) same_uni (shM.same (same_grow (s12.trans B3.fh) frM))
end
section
variable {P : Program} {w : World} {K : PySem.W.Frag} {mg : Str → Option Value} {base : Heap} {CS : Addr}
def spLaw (K : PySem.W.Frag) : Sp := fun vs H Q _ => ∃ (a : Addr) (ns : List Int), vs = [.ref a] ∧ SqL K H a (ns.map V.int) ∧ ns.length ≤ 63 ∧ ∀ H', Q (.bl true) H'
abbrev s_law : Stmt := topS 29
abbrev sc_lawN : List Str := ["_law_script", "_law_bag_here", "_law_tables_here", "_law_handed_here", "_law_kept", "_law_shape", "_law_part", "_law_twin", "_law_other", "_law_same"]
abbrev ps_law : List Str := ["_law_script"]
theorem sc_law : FnScope sc_lawN ps_law (defScope s_law) := ⟨rfl, rfl, rfl, by decide +kernel, rfl, by decide +kernel, by decide +kernel⟩
theorem ok_law {f : Addr} {fd : FuncData} (F : Fun K "law" "law" s_law f fd) (T : Txt K mg CS) (D_l_bag : Df P w K mg base "_law_bag" 1 ps_l_bag (spBag K)) (D_l_tables : Df P w K mg base "_law_tables" 3 ps_l_tables (spTables K)) (D_l_handed : Df P w K mg base "_law_handed" 2 ps_l_handed (spHanded K))
    (D4c : Df P w K mg base "_law_copied" 4 ps_l_copied (spCopied K 4)) (D4 : Df P w K mg base "_law_alike" 4 ps_l_alike (spAlike K 4)) (D_Shape : Dc P w K mg base "Shape" CS 5 ps_Shape_init (spShInit K CS)) (E_Shape : Deq P w K mg base CS 1 ps_Shape_eq (spShEq K CS))
    (D_l_tells : Df P w K mg base "_law_tells" 5 ps_l_tells (spTells K CS)) (D_l_changed : Df P w K mg base "_law_changed" 3 ps_l_changed (spChanged K)) (D_l_odd : Df P w K mg base "_law_odd" 2 ps_l_odd spOdd) : FnOk P w K mg base CX0 8 f fd ps_law (spLaw K) := by
  refine F.ok sc_law (fun vs H Q E h => ?_) (fun cdv A outer s H vs Q E hr h => ?_)
  · obtain ⟨_, _, rfl, _⟩ := h
    rfl
  · obtain ⟨a, ns, rfl, hs, len, k⟩ := h
    refine ⟨_, (pss_cons (ps_set (i := 1) sc_law.nd rfl (Or.inl rfl) (pe_d D_l_bag (hr.mono (by decide)) (pa_cons (pv 0) pa_nil)))
  (pss_cons (ps_set (i := 2) sc_law.nd rfl (Or.inl rfl) (pe_d D_l_tables (hr.mono (by decide)) (pa_cons (pv 1) pa_nil)))
  (pss_cons (ps_set (i := 3) sc_law.nd rfl (Or.inl rfl) (pe_d D_l_handed (hr.mono (by decide)) (pa_cons (pv 1) (pa_cons (pv 2) pa_nil))))
  (pss_cons (ps_set (i := 4) sc_law.nd rfl (Or.inl rfl) (pe_d D4c (hr.mono (by decide)) (pa_cons (pv 3) pa_nil)))
  (pss_cons (ps_set (i := 5) sc_law.nd rfl (Or.inl rfl) (pe_dc D_Shape (hr.mono (by decide)) (pa_cons (pv 3) pa_nil)))
  (pss_cons (ps_if (PW.pt (pw_or (pt_not (pt_val (pe_d D4 (hr.mono (by decide)) (pa_cons (pv 3) (pa_cons (pv 4) pa_nil))))) (pw_or1 (pt_not (pt_val (pe_d D_l_tells (hr.mono (by decide)) (pa_cons (pv 5) (pa_cons (pv 2) pa_nil))))))))
    (pss_one (ps_ret pe_bl))
    pss_nil)
  (pss_cons (ps_for PassesOwn.never rfl (pi_any (pv 3)) (pg_name (i := 6) sc_law.nd rfl (Or.inl rfl))
    (pss_one (ps_if (pt_val (pe_callB call_isi (by rfl) T.n_isinstance (by decide +kernel) (pa_cons (pe_ix ix_tup (pv 6) pe_int (fun _ _ => rfl)) (pa_cons (pe_bltn (v := .ty "list") (by rfl) T.n_list (by decide +kernel) rfl) pa_nil))))
      (pss_cons (ps_expr (pe_bm PySem.F.plainAttrs_list PySem.F.slot_list_append PySem.F.type_list_append mt_append (pe_ix ix_tup (pv 6) pe_int (fun _ _ => rfl)) (pa_cons pe_str pa_nil)))
      (pss_one (ps_expr (pe_bm0 PySem.F.plainAttrs_list PySem.F.slot_list_reverse PySem.F.type_list_reverse mt_reverse (pe_ix ix_tup (pv 6) pe_int (fun _ _ => rfl))))))
      pss_nil)))
  (Evl.pss_cut (ps_if (pt_val (pe_callB call_isi (by rfl) T.n_isinstance (by decide +kernel) (pa_cons (pv 3) (pa_cons (pe_bltn (v := .ty "list") (by rfl) T.n_list (by decide +kernel) rfl) pa_nil))))
    (pss_one (ps_expr (pe_bm0 PySem.F.plainAttrs_list PySem.F.slot_list_clear PySem.F.type_list_clear mt_clear (pv 3))))
    pss_nil)
  (pss_cons (ps_if (PW.pt (pw_or (pt_not (pt_val (pe_d D_l_tells (hr.mono (by decide)) (pa_cons (pv 5) (pa_cons (pv 2) pa_nil))))) (pw_or1 (pt_not (pt_val (pe_d D_l_tells (hr.mono (by decide)) (pa_cons (pv 5) (pa_cons (pv 2) pa_nil))))))))
    (pss_one (ps_ret pe_bl))
    pss_nil)
  (pss_cons (ps_set (i := 7) sc_law.nd rfl (Or.inl rfl) (pe_dc D_Shape (hr.mono (by decide)) (pa_cons (pe_d D_l_handed (hr.mono (by decide)) (pa_cons (pv 1) (pa_cons (pv 2) pa_nil))) pa_nil)))
  (pss_cons (ps_set (i := 8) sc_law.nd rfl (Or.inl rfl) (pe_dc D_Shape (hr.mono (by decide)) (pa_cons (pe_d D_l_handed (hr.mono (by decide)) (pa_cons (pv 1) (pa_cons (pe_d D_l_changed (hr.mono (by decide)) (pa_cons (pv 1) (pa_cons (pv 2) pa_nil))) pa_nil))) pa_nil)))
  (pss_cons (ps_for PassesOwn.never rfl (pi_list (pe_lst (pa_cons (pe_cmpR (op_eqO E_Shape (hr.mono (by decide))) (pv 5) (pv 7) (nomark _)) (pa_cons (pe_cmpR (op_eqO E_Shape (hr.mono (by decide))) (pv 7) (pv 5) (nomark _)) (pa_cons (pe_cmpR (op_eqO E_Shape (hr.mono (by decide))) (pv 5) (pv 5) (nomark _)) (pa_cons (pe_not (pe_cmpR (op_eqO E_Shape (hr.mono (by decide))) (pv 5) (pv 8) (nomark _))) (pa_cons (pe_not (pe_cmpR (op_eqO E_Shape (hr.mono (by decide))) (pv 8) (pv 7) (nomark _))) (pa_cons (pe_cmpR (op_neO E_Shape (hr.mono (by decide)) T.c_ne T.c_mro) (pv 5) (pv 8) (nomark _)) pa_nil)))))))) (pg_name (i := 9) sc_law.nd rfl (Or.inl rfl))
    (pss_one (ps_if (pt_not (pt_val (pv 9)))
      (pss_one (ps_ret pe_bl))
      pss_nil)))
  (pss_cons (ps_if (PW.pt (pw_or (pt_cmpR (op_neO E_Shape (hr.mono (by decide)) T.c_ne T.c_mro) (pv 5) (pv 7) (nomark _)) (pw_or (pt_cmpR (op_eqO E_Shape (hr.mono (by decide))) (pv 5) (pe_fld (pv 5) rfl) (nomark _)) (pw_or (pt_cmpR (op_eqO E_Shape (hr.mono (by decide))) (pv 5) pe_non (nomark _)) (pw_or (pt_cmpR (op_eqO E_Shape (hr.mono (by decide))) (pv 5) (pe_ix ix_tup (pe_ix ix_list (pv 2) pe_int (fun _ _ => rfl)) pe_int (fun _ _ => rfl)) (nomark _)) (pw_or1 (pt_cmpR (op_eqO E_Shape (hr.mono (by decide))) (pv 5) pe_int (nomark _))))))))
    (pss_one (ps_ret pe_bl))
    pss_nil)
  (pss_one (ps_ret (pe_and (pe_not (pe_cmpR (op_eqO E_Shape (hr.mono (by decide))) (pv 5) (pe_d D_l_odd (hr.mono (by decide)) (pa_cons (pv 1) pa_nil)) (nomark _))) (pe_one (pe_d D_l_tells (hr.mono (by decide)) (pa_cons (pv 8) (pa_cons (pe_fld (pv 8) rfl) pa_nil)))))))))))))))))))), ?_⟩
    refine ⟨_, rfl, a, ns, rfl, hs, len, fun b H1 B1 => ?_⟩
    refine ⟨_, rfl, nil0, b, rfl, B1, fun p F1 H2 ts B2 _ ok tb => ?_⟩
    refine ⟨_, rfl, _, rfl, F1, b, p, ts, rfl, B2, tb, by have z := ok.hi; omega, fun q F2 H3 B3 s12 hand => ?_⟩
    obtain ⟨fq, xs, hq, hpd⟩ := hand
    obtain ⟨d, ds, hd, ha, td, hdp, hdn⟩ := hand_tree s12 hq hpd ok
    obtain ⟨txs, tp, tdx⟩ := id tb
    refine ⟨_, rfl, .ref q, d, rfl, dp_mono B3.fh _ _ hdp, hdn, fun kv H4 N4 s4 fr4 dk => ?_⟩
    -- the shape
    refine ⟨_, rfl, fun x dx nx nd ne => ?_⟩
    have sm : Same F2 (upd (upd H4 dx (.own x)) x (.ins CS dx [])) := (B3.fh.trans s4).trans (same_make nx nd)
    refine ⟨x, dx, q, xs, d, ds, ts, rfl, upd_same, hd.elim (fun z => .inl ⟨z.1, sm.seq z.2⟩) (fun z => .inr ⟨z.1, same_sqT sm z.2⟩), dpA_mono sm _ _ ha, td, ok, fun v H5 N h1 h2 h3 h4 => ⟨rfl, ?_⟩⟩
    obtain ⟨M, frM, s5, shM⟩ := shape_new nx nd ne h1 h2 h3 h4
    have B5 := (bag_same B3 s4).grow (grow_fresh (B3.fh.trans s4) s5 frM)
    have A5 := (bag_sub s12 (bag_same B3 s4)).grow (grow_fresh (s12.trans (B3.fh.trans s4)) s5 frM)
    have shA : ShAt K CS (uni F1 M) x ts := shM.same (same_grow (s12.trans (B3.fh.trans s4)) frM)
    have sA : Same F1 (uni F1 M) := same_uni
    have sAF : Same (uni F1 M) (uni F2 M) := fun c o e => by
      rcases uni_or e with e | ⟨_, e⟩
      · exact same_uni _ _ (s12 _ _ e)
      · exact same_grow (B3.fh.trans s4) frM _ _ e
    have sF3 : Same F2 (uni F2 M) := same_uni
    have out : ∀ c o, F2 c = some o → F1 c = none → uni F1 M c = none := fun c o e1 e2 => by
      unfold uni
      rw [e2]
      cases z : M c with
      | none => rfl
      | some u =>
        have y := (frM c u z).1
        rw [s4 _ _ (B3.fh _ _ e1)] at y
        cases y
    have tbA := tb.same sA
    have fqA : uni F1 M q = none := hq.elim (fun z => out _ _ z fq) fun z => out _ _ z fq
    generalize uni F1 M = FA at *
    generalize uni F2 M = F3 at *
    -- what was handed in is as it was, and the shape tells the tables
    refine ⟨_, rfl, _, rfl, _, _, d, rfl, dp_mono (sF3.trans B5.fh) _ _ hdp, dp_mono s5 _ _ (dp_mono (fun c o e => (fr4 c o e).2) _ _ dk), hdn, fun H6 s6 => ⟨_, rfl, iteF ?_⟩⟩
    obtain ⟨tyA, tpA, tdA⟩ := id tbA
    refine ⟨_, rfl, _, rfl, x, p, ts, tyA, rfl, shA.same (A5.fh.trans s6), .inl (.inl (.inl (s6 _ _ (A5.fh _ _ tpA)))), dpA_mono (A5.fh.trans s6) _ _ tdA, ok, fun H7 s7 => ⟨_, rfl, iteF ?_⟩⟩
    have B7 := bag_same B5 (s6.trans s7)
    -- its lists are changed
    obtain ⟨o, ho, hsq⟩ : ∃ o, F3 q = some o ∧ (o = .lst xs ∨ o = .tup xs) := by
      rcases hq with hq | hq
      · exact ⟨_, sF3 _ _ hq, .inl rfl⟩
      · exact ⟨_, sF3 _ _ hq, .inr rfl⟩
    have sq : ∀ H', H' q = some o → Sq K H' q xs := fun H' e => by
      rcases hsq with rfl | rfl
      · exact .inl (.inl (.inl e))
      · exact .inr (.inl (.inl e))
    have one : ∀ H', H' q = some o → Same (upd nil0 q o) H' := fun H' e a u z => by
      by_cases y : a = q
      · subst y
        rw [upd_same] at z
        cases z
        exact e
      · rw [upd_ne y] at z
        cases z
    have loose : Paired (Loose K FA F3 q (10 + 0)) xs ts := Paired.mapP (paired_mem hpd ok.ok) fun v t z => by
      obtain ⟨⟨pp, r, e, n1, g1, ⟨g2, g3⟩ | g2⟩, tk⟩ := z
      · refine ⟨pp, r, e, out _ _ g1 n1, sF3 _ _ g1, .inl ⟨out _ _ g3 g2, fun y => ?_, _, sF3 _ _ g3, ?_⟩⟩
        · rw [y] at g3
          have z := sF3 _ _ g3
          rw [ho] at z
          rcases hsq with rfl | rfl
          · exact hand_refs hpd ok.lo t.2 (HO.lst.inj (Option.some.inj z))
          · cases z
        · rw [List.length_map]; have z := tk.fs.hi; omega
      · exact ⟨pp, r, e, out _ _ g1 n1, sF3 _ _ g1, .inr (same_sqT sA g2)⟩
    refine ⟨_, rfl, q, xs, rfl, any_of (K := K) (H0 := upd nil0 q o) (sq _ upd_same) (one _ (B7.fh _ _ ho)) fun J G gm wk => ?_⟩
    refine for_it wk (fun i σ H' => ∃ (v6 : Option V) (F4 : Hp), σ = [some (.ref a), some (.ref b), some (.ref p), some (.ref q), some kv, some (.ref x), v6, none, none, none] ∧ Bag F4 H' b ∧ Same FA F4 ∧ F4 q = some o ∧ Paired (Loose K FA F4 q (10 + i)) xs ts)
      ⟨_, F3, rfl, B7, sAF, ho, loose⟩ (fun i σ H' _ z => by obtain ⟨_, F4, _, BF, _, e, _⟩ := z; exact gm H' (one _ (BF.fh _ _ e))) ?_ ?_
    · rintro i y σ H0 H8 hi ⟨v6, F4, rfl, B8, s8, hq8, lo⟩ ⟨rfl, hy⟩
      obtain ⟨t, ht, pp, r, rfl, np, g1, g⟩ := paired_at lo hy
      have ht1 := B8.fh _ _ g1
      have lx := Paired.length lo
      have lts := ok.hi
      have lt : SqT K H8 pp [.str t.1, .ref r] := .inl (.inl ht1)
      rcases g with ⟨gA, grq, zs, gz, gl⟩ | gt
      · have hz := B8.fh _ _ gz
        have npr : pp ≠ r := fun e => by
          rw [e, gz] at g1
          cases g1
        have lr : ∀ u, SqT K (upd H8 r u) pp [.str t.1, .ref r] := fun u => .inl (.inl (by rw [upd_ne npr]; exact ht1))
        refine ⟨_, rfl, pp, _, 1, _, rfl, rfl, lt, rfl, _, _, _, _, _, rfl, .ty _, .base (.lst hz), kit_ty (b := "list") (r := true) (by decide +kernel), _, rfl, iteT ?_⟩
        refine ⟨_, rfl, pp, _, 1, _, rfl, rfl, lt, rfl, .inl ⟨rfl, zs, .inl (.inl hz)⟩, r, zs, _, rfl, rfl, hz, Nat.lt_of_le_of_lt (show zs.length ≤ 100 by omega) (by decide), ?_⟩
        refine ⟨_, rfl, pp, _, 1, _, rfl, rfl, lr _, rfl, .inl ⟨rfl, _, .inl (.inl upd_same)⟩, r, _, rfl, rfl, upd_same, ?_⟩
        rw [upd_upd]
        refine ⟨_, _, rfl, B8.put _ gz, same_put s8 _ gA, by rw [upd_ne (Ne.symm grq)]; exact hq8, Paired.mapP lo fun v' t' z => loose_put z gz ?_⟩
        rw [List.length_reverse, List.length_append]
        exact Nat.succ_le_succ gl
      · have gt8 := same_sqT (s8.trans B8.fh) gt
        obtain ⟨n, ty, kk⟩ := tup_lst gt8
        exact ⟨_, rfl, pp, _, 1, _, rfl, rfl, lt, rfl, _, _, _, _, _, rfl, .ty _, ty, kk, _, rfl, iteF ⟨_, F4, rfl, B8, s8, hq8, Paired.mapP lo fun _ _ => loose_up⟩⟩
    · rintro σ H8 ⟨v6, F4, rfl, B8, s8, hq8, _⟩
      refine ⟨fun σ' H' => σ' = [some (.ref a), some (.ref b), some (.ref p), some (.ref q), some kv, some (.ref x), v6, none, none, none] ∧ Bag FA H' b, ?_, ?_⟩
      · have hH := B8.fh _ _ hq8
        rcases hsq with rfl | rfl
        · refine ⟨_, rfl, _, _, _, _, _, rfl, .ty _, .base (.lst hH), kit_ty (b := "list") (r := true) (by decide +kernel), _, rfl, iteT ?_⟩
          exact ⟨_, rfl, .inl ⟨rfl, _, .inl (.inl hH)⟩, q, _, rfl, rfl, hH, rfl, bag_sub (same_put s8 _ fqA) (B8.put _ hq8)⟩
        · exact ⟨_, rfl, _, _, _, _, _, rfl, .ty _, .base (.tup hH), kit_ty (b := "list") (r := false) (by decide +kernel), _, rfl, iteF ⟨rfl, bag_sub s8 B8⟩⟩
      rintro σ' H9 ⟨rfl, B9⟩
      refine ⟨_, rfl, _, rfl, x, p, ts, tyA, rfl, shA.same B9.fh, .inl (.inl (.inl (B9.fh _ _ tpA))), dpA_mono B9.fh _ _ tdA, ok, fun H10 s10 => ⟨_, rfl, iteF ?_⟩⟩
      refine ⟨_, rfl, _, rfl, x, p, ts, tyA, rfl, shA.same (B9.fh.trans s10), .inl (.inl (.inl ((B9.fh.trans s10) _ _ tpA))), dpA_mono (B9.fh.trans s10) _ _ tdA, ok, fun H11 s11 => ⟨_, rfl, iteF ?_⟩⟩
      have B11 := bag_same B9 (s10.trans s11)
      -- two shapes more
      refine ⟨_, rfl, _, rfl, FA, b, p, ts, rfl, B11, tbA, by have z := ok.hi; omega, fun q2 F12 H12 B12 s12' hand2 => fun x2 dx2 n1 n2 n3 => hand_shape s12' B12 hand2 ok n1 n2 n3 fun FB H13 B13 sAB shB => ?_⟩
      have tbB := tbA.same sAB
      refine ⟨_, rfl, _, rfl, _, rfl, FB, b, p, ts, rfl, B13, tbB, ok, fun p3 us F14 H14 B14 s14 tb3 ok3 hne => ?_⟩
      refine ⟨F14, b, p3, us, rfl, B14, tb3, by have z := ok3.hi; omega, fun q4 F15 H15 B15 s15 hand4 => fun x3 dx3 n4 n5 n6 => hand_shape s15 B15 hand4 ok3 n4 n5 n6 fun FC H16 B16 sBC shC => ?_⟩
      have sFC : Same FB FC := s14.trans sBC
      have sAC : Same FA FC := sAB.trans sFC
      have X1 := shA.same (sAC.trans B16.fh)
      have X2 := shB.same (sFC.trans B16.fh)
      have X3 := shC.same B16.fh
      -- they are compared
      refine ⟨_, rfl, _, rfl, eq_same T X1 X2 ok.ok ?_⟩
      refine ⟨_, rfl, _, rfl, eq_same T X2 X1 ok.ok ?_⟩
      refine ⟨_, rfl, _, rfl, eq_same T X1 X1 ok.ok ?_⟩
      refine ⟨_, rfl, _, rfl, eq_diff T X1 X3 ok.ok ok3.ok (Ne.symm hne) ⟨_, rfl, ?_⟩⟩
      refine ⟨_, rfl, _, rfl, eq_diff T X3 X2 ok3.ok ok.ok hne ⟨_, rfl, ?_⟩⟩
      refine ⟨_, rfl, _, rfl, ne_diff X1 X3 ok.ok ok3.ok (Ne.symm hne) ⟨by decide, fun L hL => ?_⟩⟩
      have B17 := bag_junk B16 (.lst [.bl true, .bl true, .bl true, .bl (!false), .bl (!false), .bl true]) hL
      have L17 : upd H16 L (.lst [.bl true, .bl true, .bl true, .bl (!false), .bl (!false), .bl true]) L = some (.lst [.bl true, .bl true, .bl true, .bl (!false), .bl (!false), .bl true]) := upd_same
      refine ⟨L, rfl, ⟨_, .inl (.inl L17)⟩, ?_⟩
      generalize upd H16 L (.lst [.bl true, .bl true, .bl true, .bl (!false), .bl (!false), .bl true]) = H17 at *
      refine for_list (K := K) (a := L) (xs := [.bl true, .bl true, .bl true, .bl (!false), .bl (!false), .bl true]) (fun i σ H' => ∃ v9, σ = [some (.ref a), some (.ref b), some (.ref p), some (.ref q), some kv, some (.ref x), v6, some (.ref x2), some (.ref x3), v9] ∧ H17 = H') ⟨_, rfl, rfl⟩ (fun i σ H' _ z => ?_) ?_ ?_
      · obtain ⟨_, _, rfl⟩ := z
        exact .inl (.inl L17)
      · rintro i y σ H' hy ⟨v9, rfl, rfl⟩
        have e : y = .bl true := by
          have z := List.mem_of_getElem? hy
          simpa using z
        subst e
        exact ⟨_, rfl, _, rfl, iteF ⟨_, rfl, rfl⟩⟩
      · rintro σ H' ⟨v9, rfl, rfl⟩
        have Y1 := shA.same (sAC.trans B17.fh)
        have Y2 := shB.same (sFC.trans B17.fh)
        obtain ⟨dx', vt, hx', dvt⟩ := id Y1
        obtain ⟨at', txs', rfl, tt, _⟩ := dp_tup dvt
        obtain ⟨t0, ht0⟩ : ∃ t0, ts[0]? = some t0 := ⟨_, List.getElem?_eq_getElem ok.lo⟩
        obtain ⟨u0, ur, rfl, du0⟩ := dpA_head tdA (by rw [List.getElem?_map, ht0]; rfl)
        obtain ⟨p0, q0, rfl, su0, _⟩ := tab_inv du0
        refine ⟨_, rfl, _, rfl, ne_same Y1 Y2 ok.ok ⟨_, rfl, iteF ?_⟩⟩
        refine ⟨_, rfl, _, rfl, x, CS, dx', _, _, rfl, hx', T.cl, T.nT, rfl, eq_no T Y1 ok.ok ⟨"tuple", by decide, sqt_ty tt⟩ ⟨_, rfl, iteF ?_⟩⟩
        refine ⟨_, rfl, eq_noC T Y1 ok.ok ⟨"NoneType", by decide, .base .non⟩ ⟨_, rfl, iteF ?_⟩⟩
        refine ⟨_, rfl, _, rfl, p, _, 0, _, rfl, rfl, .inl (.inl ((sAC.trans B17.fh) _ _ tpA)), atI_nat (j := 0) rfl, p0, _, 0, _, rfl, rfl, same_sqT (sAC.trans B17.fh) su0, rfl, eq_no T Y1 ok.ok ⟨"str", by decide, .base (.str _)⟩ ⟨_, rfl, iteF ?_⟩⟩
        refine ⟨_, rfl, eq_noC T Y1 ok.ok ⟨"int", by decide, .base (.int _)⟩ ⟨_, rfl, iteF ?_⟩⟩
        refine ⟨_, rfl, _, rfl, FC, b, rfl, B17, fun vo F18 H18 B18 s18 kn => eq_no T (shA.same (sAC.trans (s18.trans B18.fh))) ok.ok (kn_mono B18.fh kn).ty ⟨_, rfl, _, rfl, iteT ?_⟩⟩
        have Y3 := shC.same (s18.trans B18.fh)
        obtain ⟨dx4, v4, hx4, dv4⟩ := id Y3
        obtain ⟨a4, xs4, rfl, sq4, da4⟩ := dp_tup dv4
        exact ⟨_, rfl, _, rfl, x3, CS, dx4, _, _, rfl, hx4, T.cl, T.nT, rfl, x3, a4, us, xs4, rfl, Y3, .inr sq4, da4, ok3, fun H' _ => k H'⟩
end
end Fm

/-! ## K01M -/
set_option Elab.async false
set_option maxRecDepth 100000
set_option maxHeartbeats 8000000
namespace Fm
open PySem L2
/-! ### what the top has written, the head -/
theorem all_mk {l : PySem.W.OpenLaw} {w : World} {K : PySem.W.Frag} {h : Heap} {mg : Str → Option Value} {fa CS f0 f1 f2 f3 f4 f5 f6 f7 f8 f9 f10 f11 f12 f13 f14 f15 f16 f17 f18 f19 f20 : Addr} (X : K.In h) (G : h.Ns mainGlobals mg) (hfa : mg "law" = some (.ref fa))
    {od0 an0 od1 an1 od2 an2 od3 an3 od4 an4 od5 an5 od6 an6 od7 an7 od8 an8 od9 an9 od10 an10 od11 an11 od12 an12 od13 an13 od14 an14 od15 an15 od16 an16 od17 an17 od18 an18 od19 an19 od20 an20 : Option Addr}
    {sl0 sl1 sl2 sl3 sl4 sl5 sl6 sl7 sl8 sl9 sl10 sl11 sl12 sl13 sl14 sl15 sl16 sl17 sl18 sl19 sl20 : Array (Option Value)}
    {oc0 kV0 dc0 pm0 cd0 ct0 oc1 kV1 dc1 pm1 cd1 ct1 oc2 kV2 dc2 pm2 cd2 ct2 oc3 kV3 dc3 pm3 cd3 ct3 oc4 kV4 dc4 pm4 cd4 ct4 oc5 kV5 dc5 pm5 cd5 ct5 oc6 kV6 dc6 pm6 cd6 ct6 oc7 kV7 dc7 pm7 cd7 ct7 oc8 kV8 dc8 pm8 cd8 ct8 oc9 kV9 dc9 pm9 cd9 ct9 oc10 kV10 dc10 pm10 cd10 ct10 oc11 kV11 dc11 pm11 cd11 ct11 oc12 kV12 dc12 pm12 cd12 ct12 oc13 kV13 dc13 pm13 cd13 ct13 oc14 kV14 dc14 pm14 cd14 ct14 oc15 kV15 dc15 pm15 cd15 ct15 oc16 kV16 dc16 pm16 cd16 ct16 oc17 kV17 dc17 pm17 cd17 ct17 oc18 kV18 dc18 pm18 cd18 ct18 oc19 kV19 dc19 pm19 cd19 ct19 oc20 kV20 dc20 pm20 cd20 ct20 : Value}
    (aC : PySem.W.nsIn K mainGlobals "Shape" = some (some (.ref CS)))
    (a0 : PySem.W.nsIn K mainGlobals "_law_pick" = some (some (.ref f0)))
    (l0 : K.lookup f0 = some ⟨oc0, od0, .func (PySem.W.fnOf "_law_pick" "_law_pick" (defArgs s_l_pick) (defBody s_l_pick) (defScope s_l_pick) .none kV0 dc0 pm0 an0 cd0 ct0), sl0⟩)
    (c0 : PySem.W.codeIn K cd0 "_law_pick" = true)
    (k0 : PySem.W.keepIn K (.ref f0) = true)
    (a1 : PySem.W.nsIn K mainGlobals "is_name" = some (some (.ref f1)))
    (l1 : K.lookup f1 = some ⟨oc1, od1, .func (PySem.W.fnOf "is_name" "is_name" (defArgs s_is_name) (defBody s_is_name) (defScope s_is_name) .none kV1 dc1 pm1 an1 cd1 ct1), sl1⟩)
    (c1 : PySem.W.codeIn K cd1 "is_name" = true)
    (k1 : PySem.W.keepIn K (.ref f1) = true)
    (a2 : PySem.W.nsIn K mainGlobals "is_row" = some (some (.ref f2)))
    (l2 : K.lookup f2 = some ⟨oc2, od2, .func (PySem.W.fnOf "is_row" "is_row" (defArgs s_is_row) (defBody s_is_row) (defScope s_is_row) .none kV2 dc2 pm2 an2 cd2 ct2), sl2⟩)
    (c2 : PySem.W.codeIn K cd2 "is_row" = true)
    (k2 : PySem.W.keepIn K (.ref f2) = true)
    (a3 : PySem.W.nsIn K mainGlobals "is_tuple" = some (some (.ref f3)))
    (l3 : K.lookup f3 = some ⟨oc3, od3, .func (PySem.W.fnOf "is_tuple" "is_tuple" (defArgs s_is_tuple) (defBody s_is_tuple) (defScope s_is_tuple) .none kV3 dc3 pm3 an3 cd3 ct3), sl3⟩)
    (c3 : PySem.W.codeIn K cd3 "is_tuple" = true)
    (k3 : PySem.W.keepIn K (.ref f3) = true)
    (a4 : PySem.W.nsIn K mainGlobals "are_names" = some (some (.ref f4)))
    (l4 : K.lookup f4 = some ⟨oc4, od4, .func (PySem.W.fnOf "are_names" "are_names" (defArgs s_are_names) (defBody s_are_names) (defScope s_are_names) .none kV4 dc4 pm4 an4 cd4 ct4), sl4⟩)
    (c4 : PySem.W.codeIn K cd4 "are_names" = true)
    (k4 : PySem.W.keepIn K (.ref f4) = true)
    (a5 : PySem.W.nsIn K mainGlobals "as_tuples" = some (some (.ref f5)))
    (l5 : K.lookup f5 = some ⟨oc5, od5, .func (PySem.W.fnOf "as_tuples" "as_tuples" (defArgs s_as_tuples) (defBody s_as_tuples) (defScope s_as_tuples) .none kV5 dc5 pm5 an5 cd5 ct5), sl5⟩)
    (c5 : PySem.W.codeIn K cd5 "as_tuples" = true)
    (k5 : PySem.W.keepIn K (.ref f5) = true)
    (a6 : PySem.W.nsIn K mainGlobals "is_table" = some (some (.ref f6)))
    (l6 : K.lookup f6 = some ⟨oc6, od6, .func (PySem.W.fnOf "is_table" "is_table" (defArgs s_is_table) (defBody s_is_table) (defScope s_is_table) .none kV6 dc6 pm6 an6 cd6 ct6), sl6⟩)
    (c6 : PySem.W.codeIn K cd6 "is_table" = true)
    (k6 : PySem.W.keepIn K (.ref f6) = true)
    (a7 : PySem.W.nsIn K mainGlobals "check_tables" = some (some (.ref f7)))
    (l7 : K.lookup f7 = some ⟨oc7, od7, .func (PySem.W.fnOf "check_tables" "check_tables" (defArgs s_check_tables) (defBody s_check_tables) (defScope s_check_tables) .none kV7 dc7 pm7 an7 cd7 ct7), sl7⟩)
    (c7 : PySem.W.codeIn K cd7 "check_tables" = true)
    (k7 : PySem.W.keepIn K (.ref f7) = true)
    (a8 : PySem.W.findIn K (.ref CS) "__init__" = some (some (.ref f8)))
    (i8 : PySem.W.isFn K (.ref f8) = true)
    (l8 : K.lookup f8 = some ⟨oc8, od8, .func (PySem.W.fnOf "__init__" "Shape.__init__" (defArgs s_Shape_init) (defBody s_Shape_init) (defScope s_Shape_init) .none kV8 dc8 pm8 an8 cd8 ct8), sl8⟩)
    (c8 : PySem.W.codeIn K cd8 "Shape.__init__" = true)
    (k8 : PySem.W.keepIn K (.ref f8) = true)
    (a9 : PySem.W.findIn K (.ref CS) "__eq__" = some (some (.ref f9)))
    (i9 : PySem.W.isFn K (.ref f9) = true)
    (l9 : K.lookup f9 = some ⟨oc9, od9, .func (PySem.W.fnOf "__eq__" "Shape.__eq__" (defArgs s_Shape_eq) (defBody s_Shape_eq) (defScope s_Shape_eq) .none kV9 dc9 pm9 an9 cd9 ct9), sl9⟩)
    (c9 : PySem.W.codeIn K cd9 "Shape.__eq__" = true)
    (k9 : PySem.W.keepIn K (.ref f9) = true)
    (a10 : PySem.W.findIn K (.ref CS) "fields_of" = some (some (.ref f10)))
    (i10 : PySem.W.isFn K (.ref f10) = true)
    (l10 : K.lookup f10 = some ⟨oc10, od10, .func (PySem.W.fnOf "fields_of" "Shape.fields_of" (defArgs s_Shape_fields_of) (defBody s_Shape_fields_of) (defScope s_Shape_fields_of) .none kV10 dc10 pm10 an10 cd10 ct10), sl10⟩)
    (c10 : PySem.W.codeIn K cd10 "Shape.fields_of" = true)
    (k10 : PySem.W.keepIn K (.ref f10) = true)
    (a11 : PySem.W.nsIn K mainGlobals "_law_bag" = some (some (.ref f11)))
    (l11 : K.lookup f11 = some ⟨oc11, od11, .func (PySem.W.fnOf "_law_bag" "_law_bag" (defArgs s_l_bag) (defBody s_l_bag) (defScope s_l_bag) .none kV11 dc11 pm11 an11 cd11 ct11), sl11⟩)
    (c11 : PySem.W.codeIn K cd11 "_law_bag" = true)
    (k11 : PySem.W.keepIn K (.ref f11) = true)
    (a12 : PySem.W.nsIn K mainGlobals "_law_name" = some (some (.ref f12)))
    (l12 : K.lookup f12 = some ⟨oc12, od12, .func (PySem.W.fnOf "_law_name" "_law_name" (defArgs s_l_name) (defBody s_l_name) (defScope s_l_name) .none kV12 dc12 pm12 an12 cd12 ct12), sl12⟩)
    (c12 : PySem.W.codeIn K cd12 "_law_name" = true)
    (k12 : PySem.W.keepIn K (.ref f12) = true)
    (a13 : PySem.W.nsIn K mainGlobals "_law_tables" = some (some (.ref f13)))
    (l13 : K.lookup f13 = some ⟨oc13, od13, .func (PySem.W.fnOf "_law_tables" "_law_tables" (defArgs s_l_tables) (defBody s_l_tables) (defScope s_l_tables) .none kV13 dc13 pm13 an13 cd13 ct13), sl13⟩)
    (c13 : PySem.W.codeIn K cd13 "_law_tables" = true)
    (k13 : PySem.W.keepIn K (.ref f13) = true)
    (a14 : PySem.W.nsIn K mainGlobals "_law_copied" = some (some (.ref f14)))
    (l14 : K.lookup f14 = some ⟨oc14, od14, .func (PySem.W.fnOf "_law_copied" "_law_copied" (defArgs s_l_copied) (defBody s_l_copied) (defScope s_l_copied) .none kV14 dc14 pm14 an14 cd14 ct14), sl14⟩)
    (c14 : PySem.W.codeIn K cd14 "_law_copied" = true)
    (k14 : PySem.W.keepIn K (.ref f14) = true)
    (a15 : PySem.W.nsIn K mainGlobals "_law_alike" = some (some (.ref f15)))
    (l15 : K.lookup f15 = some ⟨oc15, od15, .func (PySem.W.fnOf "_law_alike" "_law_alike" (defArgs s_l_alike) (defBody s_l_alike) (defScope s_l_alike) .none kV15 dc15 pm15 an15 cd15 ct15), sl15⟩)
    (c15 : PySem.W.codeIn K cd15 "_law_alike" = true)
    (k15 : PySem.W.keepIn K (.ref f15) = true)
    (a16 : PySem.W.nsIn K mainGlobals "_law_odd" = some (some (.ref f16)))
    (l16 : K.lookup f16 = some ⟨oc16, od16, .func (PySem.W.fnOf "_law_odd" "_law_odd" (defArgs s_l_odd) (defBody s_l_odd) (defScope s_l_odd) .none kV16 dc16 pm16 an16 cd16 ct16), sl16⟩)
    (c16 : PySem.W.codeIn K cd16 "_law_odd" = true)
    (k16 : PySem.W.keepIn K (.ref f16) = true)
    (a17 : PySem.W.nsIn K mainGlobals "_law_handed" = some (some (.ref f17)))
    (l17 : K.lookup f17 = some ⟨oc17, od17, .func (PySem.W.fnOf "_law_handed" "_law_handed" (defArgs s_l_handed) (defBody s_l_handed) (defScope s_l_handed) .none kV17 dc17 pm17 an17 cd17 ct17), sl17⟩)
    (c17 : PySem.W.codeIn K cd17 "_law_handed" = true)
    (k17 : PySem.W.keepIn K (.ref f17) = true)
    (a18 : PySem.W.nsIn K mainGlobals "_law_tells" = some (some (.ref f18)))
    (l18 : K.lookup f18 = some ⟨oc18, od18, .func (PySem.W.fnOf "_law_tells" "_law_tells" (defArgs s_l_tells) (defBody s_l_tells) (defScope s_l_tells) .none kV18 dc18 pm18 an18 cd18 ct18), sl18⟩)
    (c18 : PySem.W.codeIn K cd18 "_law_tells" = true)
    (k18 : PySem.W.keepIn K (.ref f18) = true)
    (a19 : PySem.W.nsIn K mainGlobals "_law_changed" = some (some (.ref f19)))
    (l19 : K.lookup f19 = some ⟨oc19, od19, .func (PySem.W.fnOf "_law_changed" "_law_changed" (defArgs s_l_changed) (defBody s_l_changed) (defScope s_l_changed) .none kV19 dc19 pm19 an19 cd19 ct19), sl19⟩)
    (c19 : PySem.W.codeIn K cd19 "_law_changed" = true)
    (k19 : PySem.W.keepIn K (.ref f19) = true)
    (a20 : PySem.W.nsIn K mainGlobals "law" = some (some (.ref f20)))
    (l20 : K.lookup f20 = some ⟨oc20, od20, .func (PySem.W.fnOf "law" "law" (defArgs s_law) (defBody s_law) (defScope s_law) .none kV20 dc20 pm20 an20 cd20 ct20), sl20⟩)
    (c20 : PySem.W.codeIn K cd20 "law" = true)
    (k20 : PySem.W.keepIn K (.ref f20) = true)
    (pg : PySem.W.plainGet K CS Str.empty = true)
    (hd : PySem.W.hasDictIn K CS = true)
    (po : PySem.W.plainOver K CS = true)
    (sa : PySem.W.findIn K (.ref CS) "__setattr__" = some (some (.builtin "object.__setattr__")))
    (mk : PySem.W.makesIn K CS = true)
    (kc : PySem.W.keepIn K (.ref CS) = true)
    (nT : PySem.W.findIn K (.ref CS) "tables" = some none)
    (z_len : PySem.W.nsIn K mainGlobals "len" = some none)
    (z_list : PySem.W.nsIn K mainGlobals "list" = some none)
    (z_tuple : PySem.W.nsIn K mainGlobals "tuple" = some none)
    (z_isinstance : PySem.W.nsIn K mainGlobals "isinstance" = some none)
    (z_str : PySem.W.nsIn K mainGlobals "str" = some none)
    (z_dict : PySem.W.nsIn K mainGlobals "dict" = some none)
    (z_bool : PySem.W.nsIn K mainGlobals "bool" = some none)
    (z_int : PySem.W.nsIn K mainGlobals "int" = some none)
    (z_max : PySem.W.nsIn K mainGlobals "max" = some none)
    (z_all : PySem.W.nsIn K mainGlobals "all" = some none)
    (z_set : PySem.W.nsIn K mainGlobals "set" = some none)
    (z_range : PySem.W.nsIn K mainGlobals "range" = some none)
    (z_enumerate : PySem.W.nsIn K mainGlobals "enumerate" = some none)
    (g_LETTERS : PySem.W.nsIn K mainGlobals "LETTERS" = some (some (.str "abcdefghijklmnopqrstuvwxyz" tg0)))
    (g_LONGEST_NAME : PySem.W.nsIn K mainGlobals "LONGEST_NAME" = some (some (.int 8 tg1)))
    (g_MOST_TABLES : PySem.W.nsIn K mainGlobals "MOST_TABLES" = some (some (.int 5 tg2)))
    (g_MOST_FIELDS : PySem.W.nsIn K mainGlobals "MOST_FIELDS" = some (some (.int 4 tg3)))
    (ccls : PySem.W.findIn K (.ref CS) "__class__" = some (some (.builtin "object.__class__")))
    (cget : PySem.W.specialIn K (.builtin "object.__class__") "__get__" = some (some (.builtin "getset_descriptor.__get__")))
    (ctak : PySem.W.takesIn K (.builtin "object.__class__") = some true)
    (cmro : PySem.W.mroIn K CS (.type "object") = some true)
    (cne : PySem.W.findIn K (.ref CS) "__ne__" = some (some (.builtin "object.__ne__")))
    (ki_NoneType : PySem.W.kitOne K (.type "NoneType") (.ref CS) = some false)
    (ki_bool : PySem.W.kitOne K (.type "bool") (.ref CS) = some false)
    (ki_int : PySem.W.kitOne K (.type "int") (.ref CS) = some false)
    (ki_str : PySem.W.kitOne K (.type "str") (.ref CS) = some false)
    (ki_list : PySem.W.kitOne K (.type "list") (.ref CS) = some false)
    (ki_tuple : PySem.W.kitOne K (.type "tuple") (.ref CS) = some false)
    (ki_dict : PySem.W.kitOne K (.type "dict") (.ref CS) = some false)
    (nf_NoneType : PySem.W.notFirst K CS (.type "NoneType") = true)
    (nf_bool : PySem.W.notFirst K CS (.type "bool") = true)
    (nf_int : PySem.W.notFirst K CS (.type "int") = true)
    (nf_str : PySem.W.notFirst K CS (.type "str") = true)
    (nf_list : PySem.W.notFirst K CS (.type "list") = true)
    (nf_tuple : PySem.W.notFirst K CS (.type "tuple") = true)
    (nf_dict : PySem.W.notFirst K CS (.type "dict") = true) :
    ∃ fd : FuncData, (∀ (s : Shared) (v : Value), BindsTo s fd ⟨[v], []⟩ [("_law_script", v)]) ∧ ∀ base : Heap, K.In base → base.Ns mainGlobals mg → FnOk l.prog w K mg base CX0 8 fa fd ["_law_script"] (spLaw K) := by
  have e := hfa.symm.trans (PySem.W.mg_of X G a20)
  cases e
  have T : Txt K mg CS := ⟨PySem.W.mg_none_of X G z_len, PySem.W.mg_none_of X G z_list, PySem.W.mg_none_of X G z_tuple, PySem.W.mg_none_of X G z_isinstance, PySem.W.mg_none_of X G z_str, PySem.W.mg_none_of X G z_dict, PySem.W.mg_none_of X G z_bool, PySem.W.mg_none_of X G z_int, PySem.W.mg_none_of X G z_max, PySem.W.mg_none_of X G z_all, PySem.W.mg_none_of X G z_set, PySem.W.mg_none_of X G z_range, PySem.W.mg_none_of X G z_enumerate,
    ⟨_, PySem.W.mg_of X G g_LETTERS⟩, ⟨_, PySem.W.mg_of X G g_LONGEST_NAME⟩, ⟨_, PySem.W.mg_of X G g_MOST_TABLES⟩, ⟨_, PySem.W.mg_of X G g_MOST_FIELDS⟩,
    PySem.W.mg_of X G aC, ⟨pg, hd, po, sa⟩, nT, ccls, cget, ctak, cmro, cne,
    fun n hn => by
      simp only [List.mem_cons, List.mem_nil_iff, or_false] at hn
      rcases hn with rfl | rfl | rfl | rfl | rfl | rfl | rfl
      · exact ki_NoneType
      · exact ki_bool
      · exact ki_int
      · exact ki_str
      · exact ki_list
      · exact ki_tuple
      · exact ki_dict
    , fun n hn => by
      simp only [List.mem_cons, List.mem_nil_iff, or_false] at hn
      rcases hn with rfl | rfl | rfl | rfl | rfl | rfl | rfl
      · exact nf_NoneType
      · exact nf_bool
      · exact nf_int
      · exact nf_str
      · exact nf_list
      · exact nf_tuple
      · exact nf_dict
    ⟩
  have F0 := fun_mk (st := s_l_pick) l0 c0 k0
  have b0 := F0.binds (ps := ps_l_pick) fun _ _ _ _ _ _ us hl => match us, hl with | [_, _], _ => rfl
  have F1 := fun_mk (st := s_is_name) l1 c1 k1
  have b1 := F1.binds (ps := ps_is_name) fun _ _ _ _ _ _ us hl => match us, hl with | [_], _ => rfl
  have F2 := fun_mk (st := s_is_row) l2 c2 k2
  have b2 := F2.binds (ps := ps_is_row) fun _ _ _ _ _ _ us hl => match us, hl with | [_, _, _], _ => rfl
  have F3 := fun_mk (st := s_is_tuple) l3 c3 k3
  have b3 := F3.binds (ps := ps_is_tuple) fun _ _ _ _ _ _ us hl => match us, hl with | [_, _], _ => rfl
  have F4 := fun_mk (st := s_are_names) l4 c4 k4
  have b4 := F4.binds (ps := ps_are_names) fun _ _ _ _ _ _ us hl => match us, hl with | [_, _, _], _ => rfl
  have F5 := fun_mk (st := s_as_tuples) l5 c5 k5
  have b5 := F5.binds (ps := ps_as_tuples) fun _ _ _ _ _ _ us hl => match us, hl with | [_], _ => rfl
  have F6 := fun_mk (st := s_is_table) l6 c6 k6
  have b6 := F6.binds (ps := ps_is_table) fun _ _ _ _ _ _ us hl => match us, hl with | [_], _ => rfl
  have F7 := fun_mk (st := s_check_tables) l7 c7 k7
  have b7 := F7.binds (ps := ps_check_tables) fun _ _ _ _ _ _ us hl => match us, hl with | [_], _ => rfl
  have F8 := fun_mk (st := s_Shape_init) l8 c8 k8
  have b8 := F8.binds (ps := ps_Shape_init) fun _ _ _ _ _ _ us hl => match us, hl with | [_, _], _ => rfl
  have F9 := fun_mk (st := s_Shape_eq) l9 c9 k9
  have b9 := F9.binds (ps := ps_Shape_eq) fun _ _ _ _ _ _ us hl => match us, hl with | [_, _], _ => rfl
  have F10 := fun_mk (st := s_Shape_fields_of) l10 c10 k10
  have b10 := F10.binds (ps := ps_Shape_fields_of) fun _ _ _ _ _ _ us hl => match us, hl with | [_, _], _ => rfl
  have F11 := fun_mk (st := s_l_bag) l11 c11 k11
  have b11 := F11.binds (ps := ps_l_bag) fun _ _ _ _ _ _ us hl => match us, hl with | [_], _ => rfl
  have F12 := fun_mk (st := s_l_name) l12 c12 k12
  have b12 := F12.binds (ps := ps_l_name) fun _ _ _ _ _ _ us hl => match us, hl with | [_, _], _ => rfl
  have F13 := fun_mk (st := s_l_tables) l13 c13 k13
  have b13 := F13.binds (ps := ps_l_tables) fun _ _ _ _ _ _ us hl => match us, hl with | [_], _ => rfl
  have F14 := fun_mk (st := s_l_copied) l14 c14 k14
  have b14 := F14.binds (ps := ps_l_copied) fun _ _ _ _ _ _ us hl => match us, hl with | [_], _ => rfl
  have F15 := fun_mk (st := s_l_alike) l15 c15 k15
  have b15 := F15.binds (ps := ps_l_alike) fun _ _ _ _ _ _ us hl => match us, hl with | [_, _], _ => rfl
  have F16 := fun_mk (st := s_l_odd) l16 c16 k16
  have b16 := F16.binds (ps := ps_l_odd) fun _ _ _ _ _ _ us hl => match us, hl with | [_], _ => rfl
  have F17 := fun_mk (st := s_l_handed) l17 c17 k17
  have b17 := F17.binds (ps := ps_l_handed) fun _ _ _ _ _ _ us hl => match us, hl with | [_, _], _ => rfl
  have F18 := fun_mk (st := s_l_tells) l18 c18 k18
  have b18 := F18.binds (ps := ps_l_tells) fun _ _ _ _ _ _ us hl => match us, hl with | [_, _], _ => rfl
  have F19 := fun_mk (st := s_l_changed) l19 c19 k19
  have b19 := F19.binds (ps := ps_l_changed) fun _ _ _ _ _ _ us hl => match us, hl with | [_, _], _ => rfl
  have F20 := fun_mk (st := s_law) l20 c20 k20
  have b20 := F20.binds (ps := ps_law) fun _ _ _ _ _ _ us hl => match us, hl with | [_], _ => rfl
  refine ⟨PySem.W.fnOf "law" "law" (defArgs s_law) (defBody s_law) (defScope s_law) .none kV20 dc20 pm20 an20 cd20 ct20, fun s v => .of_eq rfl, fun base _ _ => ?_⟩
  have D_l_pick : Df l.prog w K mg base "_law_pick" 1 ps_l_pick spPick := ⟨f0, _, ok_l_pick F0 T, PySem.W.mg_of X G a0, k0, b0⟩
  have D_is_name : Df l.prog w K mg base "is_name" 1 ps_is_name (spIsName K) := ⟨f1, _, ok_is_name F1 T, PySem.W.mg_of X G a1, k1, b1⟩
  have D_is_row : Df l.prog w K mg base "is_row" 1 ps_is_row (spIsRow K) := ⟨f2, _, ok_is_row F2 T, PySem.W.mg_of X G a2, k2, b2⟩
  have D_is_tuple : Df l.prog w K mg base "is_tuple" 1 ps_is_tuple (spIsTuple K) := ⟨f3, _, ok_is_tuple F3 T, PySem.W.mg_of X G a3, k3, b3⟩
  have D_are_names : Df l.prog w K mg base "are_names" 2 ps_are_names (spAreNames K) := ⟨f4, _, ok_are_names F4 T D_is_row D_is_name, PySem.W.mg_of X G a4, k4, b4⟩
  have D_as_tuples : ∀ n, Df l.prog w K mg base "as_tuples" n ps_as_tuples (spTup K n) := fun n => ⟨f5, _, ok_as_tuples F5 T (PySem.W.mg_of X G a5) b5 n, PySem.W.mg_of X G a5, k5, b5⟩
  have D_is_table : Df l.prog w K mg base "is_table" 3 ps_is_table (spIsTable K) := ⟨f6, _, ok_is_table F6 T D_is_tuple D_is_name D_are_names, PySem.W.mg_of X G a6, k6, b6⟩
  have D_check_tables : Df l.prog w K mg base "check_tables" 4 ps_check_tables (spCheck K) := ⟨f7, _, ok_check_tables F7 T D_is_row D_is_table, PySem.W.mg_of X G a7, k7, b7⟩
  have D_Shape : Dc l.prog w K mg base "Shape" CS 5 ps_Shape_init (spShInit K CS) := ⟨f8, _, ok_Shape_init F8 T D_check_tables (D_as_tuples 4), PySem.W.mg_of X G aC, ⟨mk, a8, i8, kc⟩, b8⟩
  have E_Shape : Deq l.prog w K mg base CS 1 ps_Shape_eq (spShEq K CS) := ⟨f9, _, ok_Shape_eq F9 T, a9, i9, b9⟩
  have D_fields_of : Dm l.prog w K mg base CS "fields_of" 1 ps_Shape_fields_of (spFields K CS) := ⟨f10, _, ok_Shape_fields_of F10 T, ⟨a10, i10, k10⟩, b10⟩
  have D_l_bag : Df l.prog w K mg base "_law_bag" 1 ps_l_bag (spBag K) := ⟨f11, _, ok_l_bag F11 T, PySem.W.mg_of X G a11, k11, b11⟩
  have D_l_name : Df l.prog w K mg base "_law_name" 2 ps_l_name spName := ⟨f12, _, ok_l_name F12 T D_l_pick, PySem.W.mg_of X G a12, k12, b12⟩
  have D_l_tables : Df l.prog w K mg base "_law_tables" 3 ps_l_tables (spTables K) := ⟨f13, _, ok_l_tables F13 T D_l_pick D_l_name, PySem.W.mg_of X G a13, k13, b13⟩
  have D_l_copied : ∀ n, Df l.prog w K mg base "_law_copied" n ps_l_copied (spCopied K n) := fun n => ⟨f14, _, ok_l_copied F14 T (PySem.W.mg_of X G a14) b14 n, PySem.W.mg_of X G a14, k14, b14⟩
  have D_l_alike : ∀ n, Df l.prog w K mg base "_law_alike" n ps_l_alike (spAlike K n) := fun n => ⟨f15, _, ok_l_alike F15 T (PySem.W.mg_of X G a15) b15 n, PySem.W.mg_of X G a15, k15, b15⟩
  have D_l_odd : Df l.prog w K mg base "_law_odd" 2 ps_l_odd spOdd := ⟨f16, _, ok_l_odd F16 T D_l_pick, PySem.W.mg_of X G a16, k16, b16⟩
  have D_l_handed : Df l.prog w K mg base "_law_handed" 2 ps_l_handed (spHanded K) := ⟨f17, _, ok_l_handed F17 T D_l_pick, PySem.W.mg_of X G a17, k17, b17⟩
  have D_l_tells : Df l.prog w K mg base "_law_tells" 5 ps_l_tells (spTells K CS) := ⟨f18, _, ok_l_tells F18 T D_l_alike D_fields_of, PySem.W.mg_of X G a18, k18, b18⟩
  have D_l_changed : Df l.prog w K mg base "_law_changed" 3 ps_l_changed (spChanged K) := ⟨f19, _, ok_l_changed F19 T D_l_pick D_l_name, PySem.W.mg_of X G a19, k19, b19⟩
  exact ok_law F20 T D_l_bag D_l_tables D_l_handed (D_l_copied 4) (D_l_alike 4) D_Shape E_Shape D_l_tells D_l_changed D_l_odd
theorem walk {l : PySem.W.OpenLaw} {q : Program} {loose : List Str} {XP : (Str → Option Value) → Heap → Prop} {YP : World → Heap → Prop} {d : DefRec} {K : Params → PySem.W.Frag} (hn : l.most = some 63) (hdf : d.params.defaults = [])
    (hY : ∀ (w : World) (h : Heap), YP w h → (K w.params).In h)
    (F : ∀ (w : World) (mg : Str → Option Value) (fa : Addr) (h : Heap), (K w.params).In h → h.Ns mainGlobals mg → mg d.name = some (.ref fa) →
      ∃ fd : FuncData, (∀ (s : Shared) (u : Value), BindsTo s fd ⟨[u], []⟩ [("_law_script", u)]) ∧ ∀ base : Heap, (K w.params).In base → base.Ns mainGlobals mg → FnOk l.prog w (K w.params) mg base CX0 8 fa fd ["_law_script"] (spLaw (K w.params))) :
    PySem.W.WalkO q loose XP YP l.row.toRowW d [] (fun f vs => PySem.call f vs) :=
  L2.walk_of (n := 63) (k := 8) (x := "_law_script") (CX := fun _ => CX0) (sp := fun w => spLaw (K w.params)) hn (by decide) hdf ⟨rfl, by decide, by decide⟩ hY F (fun _ _ a ns hl _ hS => ⟨a, ns, rfl, hS, hl, fun _ => rfl⟩) fun _ _ _ _ _ z => z
end Fm

/-! ## K01N -/
set_option Elab.async false
set_option maxRecDepth 100000
open PySem PySem.W PyProof.Rows in
set_option maxRecDepth 100000 in
set_option maxHeartbeats 0 in
theorem PySem.Challenge.cw_firstmet_k01_shapes_kept_holds : PySem.Challenge.rw_firstmet_k01_shapes_kept.Holds := by
  w_on; o_law; k_head; (case hw => w_witness2)
  k_fill
  refine Fm.walk (l := PySem.Challenge.rw_firstmet_k01_shapes_kept) rfl rfl (fun w h Y => PySem.W.kIn_of Y) ?F
  case F =>
    intro w mg fa h KX G hmg
    refine' Fm.all_mk KX G hmg ?aC ?a0 ?l0 ?c0 ?k0 ?a1 ?l1 ?c1 ?k1 ?a2 ?l2 ?c2 ?k2 ?a3 ?l3 ?c3 ?k3 ?a4 ?l4 ?c4 ?k4 ?a5 ?l5 ?c5 ?k5 ?a6 ?l6 ?c6 ?k6 ?a7 ?l7 ?c7 ?k7 ?a8 ?i8 ?l8 ?c8 ?k8 ?a9 ?i9 ?l9 ?c9 ?k9 ?a10 ?i10 ?l10 ?c10 ?k10 ?a11 ?l11 ?c11 ?k11 ?a12 ?l12 ?c12 ?k12 ?a13 ?l13 ?c13 ?k13 ?a14 ?l14 ?c14 ?k14 ?a15 ?l15 ?c15 ?k15 ?a16 ?l16 ?c16 ?k16 ?a17 ?l17 ?c17 ?k17 ?a18 ?l18 ?c18 ?k18 ?a19 ?l19 ?c19 ?k19 ?a20 ?l20 ?c20 ?k20 ?pg ?hd ?po ?sa ?mk ?kc ?nT ?z_len ?z_list ?z_tuple ?z_isinstance ?z_str ?z_dict ?z_bool ?z_int ?z_max ?z_all ?z_set ?z_range ?z_enumerate ?g_LETTERS ?g_LONGEST_NAME ?g_MOST_TABLES ?g_MOST_FIELDS ?ccls ?cget ?ctak ?cmro ?cne ?ki_NoneType ?ki_bool ?ki_int ?ki_str ?ki_list ?ki_tuple ?ki_dict ?nf_NoneType ?nf_bool ?nf_int ?nf_str ?nf_list ?nf_tuple ?nf_dict
    (case aC => k_is)
    (case a0 => k_is)
    (case l0 => k_is)
    (case c0 => k_is)
    (case k0 => k_is)
    (case a1 => k_is)
    (case l1 => k_is)
    (case c1 => k_is)
    (case k1 => k_is)
    (case a2 => k_is)
    (case l2 => k_is)
    (case c2 => k_is)
    (case k2 => k_is)
    (case a3 => k_is)
    (case l3 => k_is)
    (case c3 => k_is)
    (case k3 => k_is)
    (case a4 => k_is)
    (case l4 => k_is)
    (case c4 => k_is)
    (case k4 => k_is)
    (case a5 => k_is)
    (case l5 => k_is)
    (case c5 => k_is)
    (case k5 => k_is)
    (case a6 => k_is)
    (case l6 => k_is)
    (case c6 => k_is)
    (case k6 => k_is)
    (case a7 => k_is)
    (case l7 => k_is)
    (case c7 => k_is)
    (case k7 => k_is)
    (case a8 => k_is)
    (case i8 => k_is)
    (case l8 => k_is)
    (case c8 => k_is)
    (case k8 => k_is)
    (case a9 => k_is)
    (case i9 => k_is)
    (case l9 => k_is)
    (case c9 => k_is)
    (case k9 => k_is)
    (case a10 => k_is)
    (case i10 => k_is)
    (case l10 => k_is)
    (case c10 => k_is)
    (case k10 => k_is)
    (case a11 => k_is)
    (case l11 => k_is)
    (case c11 => k_is)
    (case k11 => k_is)
    (case a12 => k_is)
    (case l12 => k_is)
    (case c12 => k_is)
    (case k12 => k_is)
    (case a13 => k_is)
    (case l13 => k_is)
    (case c13 => k_is)
    (case k13 => k_is)
    (case a14 => k_is)
    (case l14 => k_is)
    (case c14 => k_is)
    (case k14 => k_is)
    (case a15 => k_is)
    (case l15 => k_is)
    (case c15 => k_is)
    (case k15 => k_is)
    (case a16 => k_is)
    (case l16 => k_is)
    (case c16 => k_is)
    (case k16 => k_is)
    (case a17 => k_is)
    (case l17 => k_is)
    (case c17 => k_is)
    (case k17 => k_is)
    (case a18 => k_is)
    (case l18 => k_is)
    (case c18 => k_is)
    (case k18 => k_is)
    (case a19 => k_is)
    (case l19 => k_is)
    (case c19 => k_is)
    (case k19 => k_is)
    (case a20 => k_is)
    (case l20 => k_is)
    (case c20 => k_is)
    (case k20 => k_is)
    (case pg => k_is)
    (case hd => k_is)
    (case po => k_is)
    (case sa => k_is)
    (case mk => k_is)
    (case kc => k_is)
    (case nT => k_is)
    (case z_len => k_is)
    (case z_list => k_is)
    (case z_tuple => k_is)
    (case z_isinstance => k_is)
    (case z_str => k_is)
    (case z_dict => k_is)
    (case z_bool => k_is)
    (case z_int => k_is)
    (case z_max => k_is)
    (case z_all => k_is)
    (case z_set => k_is)
    (case z_range => k_is)
    (case z_enumerate => k_is)
    (case g_LETTERS => k_is)
    (case g_LONGEST_NAME => k_is)
    (case g_MOST_TABLES => k_is)
    (case g_MOST_FIELDS => k_is)
    (case ccls => k_is)
    (case cget => k_is)
    (case ctak => k_is)
    (case cmro => k_is)
    (case cne => k_is)
    (case ki_NoneType => kit_is)
    (case ki_bool => kit_is)
    (case ki_int => kit_is)
    (case ki_str => kit_is)
    (case ki_list => kit_is)
    (case ki_tuple => kit_is)
    (case ki_dict => kit_is)
    (case nf_NoneType => k_is)
    (case nf_bool => k_is)
    (case nf_int => k_is)
    (case nf_str => k_is)
    (case nf_list => k_is)
    (case nf_tuple => k_is)
    (case nf_dict => k_is)
