import PyProof.Rows.All
import Wide.All
import OpenK.AllK
import Wide.FinOn
import HandS.ForMost
import HandS.IsInst
import HandS.TupAny
import HandS.Strs
import HandS.OwnEq
import HandS.Flow
import HandS.Evl
import HandS.Zip0
import HandS.Walk
import PyProof.Draws
import PyProof.EnumMake
import PyProof.InstNe
import HandS.TupMul
import HandS.Exc
import HandS.ExcIs
import HandS.ExcField
import HandS.ExcInit
import HandS.Small
import HandS.Defaults
import HandS.MakeKwOnly
import HandS.ExcOwn
import HandS.WordsExc
import HandS.DictComp
import HandS.DictEq
import HandS.More
import HandS.Star
import KE.KEqDict
import HandS.TryMany
import PySem.Challenge.RW_firstmet_k06_stores_histories
/-! ## FmBase -/
set_option Elab.async false
set_option maxRecDepth 100000
/-! What all of our laws share: how a def of the text is called, heaps that grow, the bag of the drawn numbers. -/
namespace Fm
open PySem L2
/-! ### calls -/
/-- the module's name x is a def that keeps the promise sp -/
structure Df (P : Program) (w : World) (K : PySem.W.Frag) (mg : Str → Option Value) (base : Heap) (x : Str) (k : Nat) (ps : List Str) (sp : Sp) : Prop where
  ex : ∃ (f : Addr) (fd : FuncData), FnOk P w K mg base CX0 k f fd ps sp ∧ mg x = some (.ref f) ∧ PySem.W.keepIn K (.ref f) = true ∧ Binds K fd ps []
/-- the method m of the class at C -/
structure Dm (P : Program) (w : World) (K : PySem.W.Frag) (mg : Str → Option Value) (base : Heap) (C : Addr) (m : Str) (k : Nat) (ps : List Str) (sp : Sp) : Prop where
  ex : ∃ (f : Addr) (fd : FuncData), FnOk P w K mg base CX0 k f fd ps sp ∧ Meth K C m f ∧ Binds K fd ps []
/-- the class at C, by its __init__ -/
structure Dc (P : Program) (w : World) (K : PySem.W.Frag) (mg : Str → Option Value) (base : Heap) (x : Str) (C : Addr) (k : Nat) (ps : List Str) (sp : Sp) : Prop where
  ex : ∃ (f : Addr) (fd : FuncData), FnOk P w K mg base CX0 k f fd ps sp ∧ mg x = some (.ref C) ∧ Mk K C f ∧ Binds K fd ps []
section
variable {X : Cx} {k : Nat} {ps : List Str} {sp : Sp} {x m : Str} {e o : Expr} {es : List Expr} {t : TA} {to : TE} {C : Addr} {p apos pos : Pos}
theorem pe_d (D : Df X.prog X.w X.K X.mg X.base x k ps sp) (hr : Room k X.A) (ha : PA X (e :: es) t) (hg : Gl X x := by rfl) (hdb : (x == ("__debug__" : Str)) = false := by decide)
    (he : starEach (e :: es) X.env = (false, eval e X.env) :: starEach es X.env := by rfl) (hpl : (backTo pos (starEach es X.env)).any (·.1) = false := by rfl) : PE X (.Call (.Name x p) (e :: es) [] pos) (tCall sp [] E0 t) := by
  obtain ⟨f, fd, F, hm, hk, hb⟩ := D.ex
  exact pe_call F hr hg hm hk hb .nil pass0 ha hdb he hpl
theorem pe_dc (D : Dc X.prog X.w X.K X.mg X.base x C k ps sp) (hr : Room (k + 1) X.A) (ha : PA X (e :: es) t) (hg : Gl X x := by rfl) (hdb : (x == ("__debug__" : Str)) = false := by decide)
    (he : starEach (e :: es) X.env = (false, eval e X.env) :: starEach es X.env := by rfl) (hpl : (backTo pos (starEach es X.env)).any (·.1) = false := by rfl) : PE X (.Call (.Name x p) (e :: es) [] pos) (tMake C sp [] E0 t) := by
  obtain ⟨f, fd, F, hm, M, hb⟩ := D.ex
  exact pe_make M F hr hg hm hb .nil pass0 ha hdb he hpl
theorem pe_dm {pl : Sem Bool} (he : PE X o to) (c : Cls X.K C) (D : Dm X.prog X.w X.K X.mg X.base C m k ps sp) (hr : Room k X.A) (ha : PA X (e :: es) t)
    (hst : starEach (e :: es) X.env = (false, eval e X.env) :: starEach es X.env := by rfl) (hpl : (backTo pos (starEach es X.env)).any (·.1) = false := by rfl)
    (ht : eval (.Call (.Attribute o m apos) (e :: es) [] pos) X.env = (do
      let ov ← eval o X.env
      standAt apos.atName
      let (f, first) ← holding [ov] (getMethod ov m pl)
      callWith pos f first (backTo pos (starEach (e :: es) X.env)) (backToKw pos (keywordEach [] X.env))) := by rfl) : PE X (.Call (.Attribute o m apos) (e :: es) [] pos) (tMeth C m sp [] E0 to t) := by
  obtain ⟨f, fd, F, hm, hb⟩ := D.ex
  exact pe_meth he c hm F hr hb .nil pass0 ha hst hpl ht
end
section
variable {X : Cx} {x : Str} {pos : Pos}
theorem pe_gI {n : Int} (h : ∃ t, X.mg x = some (.int n t)) (hg : Gl X x := by rfl) (hd : (x == ("__debug__" : Str)) = false := by decide) : PE X (.Name x pos) (tC (.int n)) := by
  obtain ⟨t, e⟩ := h
  exact pe_glob hg e ⟨t, rfl⟩ hd
theorem pe_gS {z : Str} (h : ∃ t, X.mg x = some (.str z t)) (hg : Gl X x := by rfl) (hd : (x == ("__debug__" : Str)) = false := by decide) : PE X (.Name x pos) (tC (.str z)) := by
  obtain ⟨t, e⟩ := h
  exact pe_glob hg e ⟨t, rfl⟩ hd
end
/-! ### tests -/
theorem ifd {p A B : Prop} [Decidable p] (h1 : p → A) (h2 : ¬ p → B) : if decide p = true then A else B := by
  by_cases h : p
  · rw [if_pos (decide_eq_true h)]
    exact h1 h
  · rw [if_neg (by rw [decide_eq_false h]; exact Bool.false_ne_true)]
    exact h2 h
theorem ifn {p A B : Prop} [Decidable p] (h1 : ¬ p → A) (h2 : p → B) : if (!decide p) = true then A else B := by
  by_cases h : p
  · rw [if_neg (by rw [decide_eq_true h]; exact Bool.false_ne_true)]
    exact h2 h
  · rw [if_pos (by rw [decide_eq_false h]; rfl)]
    exact h1 h
theorem intV {i j : Int} (h : V.int i = V.int j) : i = j := V.int.inj h
/-! ### heaps that grow: F is the part that is spoken of, the rest of H stays -/
structure Grow (F H F' H' : Hp) : Prop where
  ff : Same F F'
  fh : Same F' H'
  hh : ∀ a o, F a = none → H a = some o → F' a = none ∧ H' a = some o
theorem Grow.refl {F H : Hp} (s : Same F H) : Grow F H F H := ⟨Same.refl _, s, fun _ _ a b => ⟨a, b⟩⟩
theorem Grow.same {F H F' H' : Hp} (s : Same F H) (g : Grow F H F' H') : Same H H' := fun a o e => by
  cases q : F a with
  | none => exact (g.hh a o q e).2
  | some u =>
    have z := s a u q
    rw [e] at z
    cases z
    exact g.fh _ _ (g.ff _ _ q)
theorem Grow.trans {F H F1 H1 F2 H2 : Hp} (a : Grow F H F1 H1) (b : Grow F1 H1 F2 H2) : Grow F H F2 H2 :=
  ⟨a.ff.trans b.ff, b.fh, fun c o h1 h2 => let ⟨z1, z2⟩ := a.hh c o h1 h2; b.hh c o z1 z2⟩
theorem same_upd {F H : Hp} (s : Same F H) (p : Addr) (o : HO) : Same (upd F p o) (upd H p o) := fun a u e => by
  by_cases h : a = p
  · subst h
    rw [upd_same] at e ⊢
    exact e
  · rw [upd_ne h] at e ⊢
    exact s a u e
theorem Grow.new {F H : Hp} (s : Same F H) {p : Addr} (o : HO) (hp : H p = none) : Grow F H (upd F p o) (upd H p o) :=
  ⟨fun a u e => by rw [upd_ne (ne_of_none e (s.free hp))]; exact e, same_upd s p o, fun a u e1 e2 => by
    have n := ne_of_none e2 hp
    rw [upd_ne n, upd_ne n]
    exact ⟨e1, e2⟩⟩
theorem same_upd1 {F H : Hp} (s : Same F H) {p : Addr} (o : HO) (hp : H p = none) : Same F (L2.upd H p o) := fun a u e => by
  rw [upd_ne (ne_of_none (s a u e) hp)]
  exact s a u e
theorem same_new {H : Hp} {p : Addr} (o : HO) (hp : H p = none) : Same H (upd H p o) := same_upd1 (Same.refl H) o hp
theorem same_put {H H' : Hp} (s : Same H H') {D : Addr} (o : HO) (hD : H D = none) : Same H (upd H' D o) := fun a u e => by
  have n : a ≠ D := ne_of_none e hD
  rw [upd_ne n]
  exact s a u e
theorem map_take {α β : Type} {xs : List α} {i : Nat} {c : α} (f : α → β) (h : xs[i]? = some c) : (xs.take (i + 1)).map f = (xs.take i).map f ++ [f c] := by
  rw [List.take_add_one, h, List.map_append]
  rfl
theorem take_lt {α β : Type} {xs : List α} {i : Nat} (f : α → β) (h : xs.length ≤ 100000) : ((xs.take i).map f).length < sizeLine := by
  rw [List.length_map, List.length_take]
  exact Nat.lt_of_le_of_lt (Nat.le_trans (Nat.min_le_right _ _) h) (by decide)
/-! ### the bag -/
structure Bag (F H : Hp) (b : Addr) : Prop where
  fh : Same F H
  fb : F b = none
  ex : ∃ (cl : Addr) (ns : List Int) (p g s c h : Int), F cl = none ∧ cl ≠ b ∧ H cl = some (.lst (ns.map V.int)) ∧ H b = some (.lst [.ref cl, .int p, .int g, .int s, .int c, .int h]) ∧ 0 ≤ p ∧ 0 ≤ g ∧ 0 ≤ s ∧ s < 2147483647
theorem Bag.grow {F H F' H' : Hp} {b : Addr} (B : Bag F H b) (g : Grow F H F' H') : Bag F' H' b := by
  obtain ⟨s, fb, cl, ns, p, gg, z, c, h, e1, e2, e3, e4, r⟩ := B
  obtain ⟨z1, z2⟩ := g.hh _ _ e1 e3
  obtain ⟨y1, y2⟩ := g.hh _ _ fb e4
  exact ⟨g.fh, y1, cl, ns, p, gg, z, c, h, z1, e2, z2, y2, r⟩
theorem Bag.new {F H : Hp} {b p : Addr} (B : Bag F H b) (o : HO) (hp : H p = none) : Bag (upd F p o) (upd H p o) b := B.grow (Grow.new B.fh o hp)
theorem Bag.put {F H : Hp} {b l : Addr} {o : HO} (B : Bag F H b) (o' : HO) (hl : F l = some o) : Bag (upd F l o') (upd H l o') b := by
  obtain ⟨s, fb, cl, ns, p, g, z, c, h, e1, e2, e3, e4, r⟩ := B
  have n1 : b ≠ l := fun q => by rw [q, hl] at fb; cases fb
  have n2 : cl ≠ l := fun q => by rw [q, hl] at e1; cases e1
  exact ⟨same_upd s l o', by rw [upd_ne n1]; exact fb, cl, ns, p, g, z, c, h, by rw [upd_ne n2]; exact e1, e2, by rw [upd_ne n2]; exact e3, by rw [upd_ne n1]; exact e4, r⟩
theorem Bag.ne {F H : Hp} {b l : Addr} {o : HO} (B : Bag F H b) (hl : F l = some o) : l ≠ b := fun q => by
  have z := B.fb
  rw [← q, hl] at z
  cases z
/-- what _law_pick(bag, many) gives: some number below many -/
def spPick : Sp := fun vs H Q _ => ∃ (F : Hp) (b : Addr) (m : Int), vs = [.ref b, .int m] ∧ 0 < m ∧ m < 1073741824 ∧ Bag F H b ∧ ∀ (r : Int) (H' : Hp), 0 ≤ r → r < m → Bag F H' b → Q (.int r) H'
theorem fmod_lo {a m : Int} (h : 0 < m) : 0 ≤ a.fmod m := Int.fmod_nonneg_of_pos a h
theorem fmod_hi {a m : Int} (h : 0 < m) : a.fmod m < m := Int.fmod_lt_of_pos a h
theorem fmod64 (x : Int) {m : Int} (h : 0 < m) (h2 : m < 4294967296) : -(2 ^ 64) < x.fmod m ∧ x.fmod m < 2 ^ 64 := by
  have a := fmod_lo (a := x) h
  have b := fmod_hi (a := x) h
  omega
theorem fdiv_lo {a m : Int} (ha : 0 ≤ a) (h : 0 < m) : 0 ≤ a.fdiv m := by
  rw [Int.fdiv_eq_ediv_of_nonneg _ (Int.le_of_lt h)]
  exact Int.ediv_nonneg ha (Int.le_of_lt h)
theorem fdiv_hi {a m : Int} (ha : 0 ≤ a) (h : 0 < m) : a.fdiv m ≤ a := by
  rw [Int.fdiv_eq_ediv_of_nonneg _ (Int.le_of_lt h)]
  exact Int.ediv_le_self _ ha
end Fm

/-! ## FmSet -/
set_option Elab.async false
set_option maxRecDepth 100000
set_option maxHeartbeats 8000000
/-! The size of a set that is made of a row of texts, whatever texts they are. -/
namespace Fm
open PySem L2 PyProof.Rows PySem.Spec
/-- how many unlike texts, the last one first -/
def disR : List Str → Nat
  | [] => 0
  | x :: r => if x ∈ r then disR r else disR r + 1
def dis (xs : List Str) : Nat := disR xs.reverse
theorem disR_le : ∀ r : List Str, disR r ≤ r.length
  | [] => Nat.le_refl _
  | x :: r => by
    have ih := disR_le r
    unfold disR
    split
    · exact Nat.le_succ_of_le ih
    · exact Nat.succ_le_succ ih
theorem disR_full : ∀ r : List Str, disR r = r.length ↔ r.Nodup
  | [] => ⟨fun _ => .nil, fun _ => rfl⟩
  | x :: r => by
    have ih := disR_full r
    have le := disR_le r
    unfold disR
    rw [List.nodup_cons]
    split
    · rename_i h
      constructor
      · intro e
        rw [List.length_cons] at e
        omega
      · intro e
        exact absurd h e.1
    · rename_i h
      rw [List.length_cons]
      constructor
      · intro e
        exact ⟨h, ih.mp (by omega)⟩
      · intro e
        rw [ih.mpr e.2]
theorem dis_le (xs : List Str) : dis xs ≤ xs.length := by
  have h := disR_le xs.reverse
  rw [List.length_reverse] at h
  exact h
theorem dis_full (xs : List Str) : dis xs = xs.length ↔ xs.Nodup := by
  have h := disR_full xs.reverse
  rw [List.length_reverse] at h
  refine h.trans ?_
  show List.Pairwise (· ≠ ·) xs.reverse ↔ List.Pairwise (· ≠ ·) xs
  rw [List.pairwise_reverse]
  exact ⟨fun z => z.imp Ne.symm, fun z => z.imp Ne.symm⟩
theorem dis_take {xs : List Str} {i : Nat} {x : Str} (h : xs[i]? = some x) : dis (xs.take (i + 1)) = if x ∈ xs.take i then dis (xs.take i) else dis (xs.take i) + 1 := by
  have e : xs.take (i + 1) = xs.take i ++ [x] := by
    rw [List.take_add_one, h]
    rfl
  unfold dis
  rw [e, List.reverse_append]
  show (if x ∈ (xs.take i).reverse then _ else _) = _
  by_cases m : x ∈ xs.take i
  · rw [if_pos m, if_pos (List.mem_reverse.mpr m)]
    rfl
  · rw [if_neg m, if_neg fun z => m (List.mem_reverse.mp z)]
    rfl
abbrev among (l : List Str) : Str → Bool := fun k => l.any (· == k)
theorem among_mem {l : List Str} {x : Str} : among l x = true ↔ x ∈ l := by
  show l.any (· == x) = true ↔ x ∈ l
  rw [List.any_eq_true]
  constructor
  · rintro ⟨y, hy, e⟩
    rw [← eq_of_beq e]
    exact hy
  · intro h
    exact ⟨x, h, beq_self_eq_true x⟩
theorem among_take {xs : List Str} {i : Nat} {x : Str} (h : xs[i]? = some x) (k : Str) : (among (xs.take i) k || decide (k = x)) = among (xs.take (i + 1)) k := by
  have e : xs.take (i + 1) = xs.take i ++ [x] := by
    rw [List.take_add_one, h]
    rfl
  show _ = (xs.take (i + 1)).any (· == k)
  rw [e, List.any_append]
  by_cases q : k = x
  · subst q
    simp
  · have q' : (x == k) = false := by simpa using fun z : x = k => q z.symm
    simp [q, q']
section
variable {prog : Program} {w : World} {A : Around} {R : Result → Shared → Prop} {I : Addr} {fp wr : List Addr} {G : Array GenState → Array GenState → Prop} {n : Nat} {Pz : Nat → Value → Prop} {St : Nat → Shared → Prop}
/-- the loop that fills a set: behind i items it holds those items -/
theorem fill_strs (W : WalksS prog w A.in1 I fp wr G n Pz St) (S : Addr) (hS : S ∉ fp) (xs : List Str) (hn : xs.length = n) (hb : n + 1 < scanBound) (hv : ∀ i v, Pz i v → ∃ t x, v = .str x t ∧ xs[i]? = some x) :
    ∀ (k i : Nat) (s : Shared), n - i = k → i ≤ n → St i s → s.heap.SetOf (PySem.strKind prog w) S (among (xs.take i)) (dis (xs.take i)) →
      (∀ s', Moved (S :: wr) G s s' → s'.heap.SetOf (PySem.strKind prog w) S (among xs) (dis xs) → R (.ok (.ret .none)) s') →
      codeAny (model prog w) A (.builtin "set.update.loop" ⟨[.ref S, .ref I], []⟩) R s := by
  have out : S ∉ wr := fun z => hS (W.sub _ z)
  have more : ∀ b ∈ wr, b ∈ S :: wr := fun b z => List.mem_cons_of_mem _ z
  intro k
  induction k with
  | zero =>
    intro i s e0 le st set fin
    obtain rfl : i = n := by omega
    refine codeAny_builtin F.entry_set_update_loop ?_
    rw [Around.under_plainId F.plain_set_update_loop _]
    show wpAny _ A.in1 (pyNext (.ref I) >>= _) _ _ s
    refine wpAny_bind (W.done s _ _ st fun s' mv => ?_)
    show wpAny _ A.in1 (ret Value.none) _ _ s'
    refine wpAny_pure (fin s' (mv.mono more) ?_)
    obtain ⟨o, es, ep, t, ho, rest⟩ := set
    rw [← hn, List.take_length] at rest
    exact ⟨o, es, ep, t, mv.heap S _ out ho, rest⟩
  | succ k ih =>
    intro i s e0 le st set fin
    have lt : i < n := by omega
    refine codeAny_builtin F.entry_set_update_loop ?_
    rw [Around.under_plainId F.plain_set_update_loop _]
    show wpAny _ A.in1 (pyNext (.ref I) >>= _) _ _ s
    refine wpAny_bind (W.item i s _ _ lt st fun v s' pv st' mv => ?_)
    obtain ⟨t, x, rfl, hx⟩ := hv i v pv
    have set' : s'.heap.SetOf (PySem.strKind prog w) S (among (xs.take i)) (dis (xs.take i)) := by
      obtain ⟨o, es, ep, tb, ho, rest⟩ := set
      exact ⟨o, es, ep, tb, mv.heap S _ out ho, rest⟩
    show wpAny _ A.in1 (holding [Value.str x t] (setAdd S (.str x t)) >>= _) _ _ s'
    refine wpAny_bind (wpAny_holding ?_)
    unfold setAdd
    refine wpAny_holding ?_
    refine wpAny_bind ((PySem.strKind prog w).pyHash (k := x) (strKind_is _ _ _ _) ?_)
    have small : dis (xs.take i) + 1 < scanBound := by
      have z := dis_le (xs.take i)
      rw [List.length_take] at z
      omega
    refine wpAny_setAddHashed_of (knd := PySem.strKind prog w) (s := { s' with toks := s'.toks + 1 }) (strKind_is _ _ _ _) rfl set' small fun h' sb set2 => ?_
    have set3 : h'.SetOf (PySem.strKind prog w) S (among (xs.take (i + 1))) (dis (xs.take (i + 1))) := by
      refine SetOf_congr set2 (fun k' => among_take hx k') ?_
      rw [dis_take hx]
      by_cases m : x ∈ xs.take i
      · rw [if_pos m, if_pos (among_mem.mpr m)]
      · rw [if_neg m, if_neg fun z => m (among_mem.mp z)]
    refine wpAny_pure ⟨plainId_quiet F.plain_set_update_loop _, ih (i + 1) _ (by omega) lt (W.frame _ s' _ _ st' (Nat.le_succ _) fun b hb o e => ?_) set3 fun s3 mv3 done => ?_⟩
    · rw [sb.2 b fun z : b = S => hS (by rw [← z]; exact hb)]
      exact e
    · refine fin s3 (Moved.trans W.gtrans ((mv.mono more).then_heap (Nat.le_succ _) fun b o hb e => ?_) mv3) done
      rw [sb.2 b fun z : b = S => hb (by rw [z]; exact List.mem_cons_self)]
      exact e
end
def newSet (led : Bool) : Obj := { cls := .type "set", dict := none, data := .set #[] 0 (.fresh 0 0 led) }
section
variable {prog : Program} {w : World} {A : Around} {E : Value → Shared → Prop} {s : Shared}
set_option maxHeartbeats 16000000 in
/-- set(xs), xs a list of texts -/
theorem set_of_list {l : Addr} {items : Array Value} {xs : List Str} {Q : Value → Shared → Prop} (hh : A.handled = none) (hl : s.heap.IsList l items) (hi : StrsAre items.toList xs) (hn : xs.length + 1 < scanBound)
    (k : ∀ (h' : Heap) (tk : Nat), h'.SetOf (PySem.strKind prog w) s.heap.objs.size (among xs) (dis xs) → (∀ b o, b < s.heap.objs.size → s.heap.get? b = some o → h'.get? b = some o) → Q (.ref s.heap.objs.size) { s with heap := h', toks := tk }) :
    wpAny (model prog w) A (call (.type "set") [.ref l]) Q E s := by
  obtain ⟨cc, tl, mro⟩ := PySem.F.called_set.mro
  have made := PySem.F.called_set.made
  have isub := PySem.F.called_set.sub
  refine wpAny_call (codeAny_of_tree ?_)
  show wpAny _ _ (callAny (.type "set") _) _ _ _
  refine wpAny_pure ⟨Code.quiet_builtin _ (by decide +kernel), codeAny_builtin PySem.F.entry_type_call ?_⟩
  rw [Around.under_plain (weight_type_call_type "set" [.ref l] []) rfl]
  have f1 := PySem.F.called_set.notType
  have f2 := PySem.F.called_set.canCreate
  have f3 := PySem.F.typeCall_set_1 (.ref l)
  repeat (any_goals (first | assumption | wp_step))
  refine codeAny_mono (code_set_new_1 (.ref l) (E := E) (Q₁ := fun ob s1 => ∃ led : Bool, ob = .ref s.heap.objs.size ∧ s1 = { s with heap := s.heap.push (newSet led) }) fun led => ⟨led, rfl, rfl⟩) fun r s1 hr => ?_
  cases r with
  | error e => exact hr
  | ok fl =>
    cases fl with
    | next => exact hr.elim
    | brk => exact hr.elim
    | cont => exact hr.elim
    | ret ob =>
      obtain ⟨led, rfl, rfl⟩ := hr
      have atS : (s.heap.push (newSet led)).get? s.heap.objs.size = some (newSet led) := Heap.get?_push_size _ rfl
      have ty : Shared.TypeIs { s with heap := s.heap.push (newSet led) } (.ref s.heap.objs.size) "set" := ⟨_, atS, rfl⟩
      have i1 := PySem.F.called_set.init.lookup
      have i2 := PySem.F.called_set.init.bind (.ref s.heap.objs.size)
      repeat (any_goals (first | assumption | wp_step))
      refine codeAny_mono (codeAny_call_builtin (R := wants (fun r s2 => r = .none ∧ ∃ h' tk, s2 = { s with heap := h', toks := tk } ∧ h'.SetOf (PySem.strKind prog w) s.heap.objs.size (among xs) (dis xs) ∧ (∀ b o, b < s.heap.objs.size → s.heap.get? b = some o → h'.get? b = some o)) E) PySem.F.called_set.init.plain PySem.F.entry_set_init (check_set_init_1 ty ?_)) fun r2 s2 hr2 => ?_
      · obtain ⟨ol, hol, hcl, nl, hdl⟩ := hl
        obtain ⟨oc, od, oda, osl⟩ := ol
        simp only at hcl hdl
        subst hcl hdl
        have hol' : (s.heap.push (newSet led)).get? l = some { cls := .type "list", dict := od, data := .seq items nl, slots := osl } := Heap.get?_push_of_some _ hol
        have g1 := PySem.F.sub_list_set
        have g2 := PySem.F.sub_list_frozenset
        have g3 : (Value.type "list" == Value.type "dict") = false := by decide
        have hl1 : (s.heap.push (newSet led)).IsList l items := ⟨_, hol', rfl, nl, rfl⟩
        unfold newSet at hol' hl1 ty atS ⊢
        unfold Builtin.«set.__init__» noKeywords Builtin.Frozenset.updateFrom
        generalize hPI : pyIter = PI
        wp_walk
        subst hPI
        refine wpAny_pyIter_list hl1 ?_
        refine wpAny_bind (wpAny_runValue ?_)
        have ls : l < s.heap.objs.size := Heap.lt_size hol
        have hh3 : A.in1.in1.in1.handled = none := by simp [hh]
        have sz : (s.heap.push (newSet led)).objs.size = s.heap.objs.size + 1 := Heap.size_push _ _
        unfold newSet at sz
        have n1 : l ≠ (s.heap.push { cls := .type "set", dict := none, data := .set #[] 0 (.fresh 0 0 led) }).objs.size := by
          rw [sz]
          exact Nat.ne_of_lt (Nat.lt_succ_of_lt ls)
        have n2 : s.heap.objs.size ∉ [(s.heap.push { cls := .type "set", dict := none, data := .set #[] 0 (.fresh 0 0 led) }).objs.size, l] := by
          rw [sz]
          intro z
          rcases List.mem_cons.mp z with z | z
          · exact absurd z (Nat.ne_of_lt (Nat.lt_succ_self _))
          · exact absurd (List.mem_singleton.mp z) (Nat.ne_of_gt ls)
        have hsz : xs.length = items.size := by rw [← StrsAre.len_eq hi, Array.length_toList]
        have hval : ∀ (i : Nat) (v : Value), items[i]? = some v → ∃ t x, v = .str x t ∧ xs[i]? = some x := fun i v hv => by
          obtain ⟨t, e⟩ := SS.strs_at hi i v (by rw [Array.getElem?_toList]; exact hv)
          have hlt : i < xs.length := by
            rw [hsz]
            exact (Array.getElem?_eq_some_iff.mp hv).1
          exact ⟨t, xs[i], by
            rw [e, List.getD_eq_getElem?_getD, List.getElem?_eq_getElem hlt]
            rfl, List.getElem?_eq_getElem hlt⟩
        refine fill_strs ((Walks.list hh3 _ l n1 items).toS) s.heap.objs.size n2 xs hsz (by rw [← hsz]; exact hn) hval (items.size - 0) 0 _ (by omega) (Nat.zero_le _)
          ⟨⟨_, Heap.get?_push_size _ rfl, rfl, rfl⟩, (hl1.push _)⟩ ?hS0 ?hR
        case hS0 =>
          exact SetOf_congr ((setObjOf_fresh (knd := PySem.strKind prog w) led).setOf (Heap.get?_push_of_some _ atS) (by unfold scanBound; omega)) (fun _ => rfl) rfl
        case hR =>
          intro s' mv set'
          obtain ⟨h', g', d', tk', os'⟩ := s'
          obtain rfl : g' = s.gens := mv.gens
          obtain rfl : d' = s.drawn := mv.drawn
          obtain rfl : os' = s.os := mv.os
          show wpAny _ _ _ _ _ _
          refine wpAny_pure ?_
          show wpAny _ _ (ret Value.none) _ _ _
          refine wpAny_pure ⟨rfl, h', tk', rfl, set', fun b o hb e => ?_⟩
          refine mv.heap b o ?_ (Heap.get?_push_of_some _ (Heap.get?_push_of_some _ e))
          rw [sz]
          intro z
          rcases List.mem_cons.mp z with z | z
          · exact absurd z (Nat.ne_of_lt hb)
          · exact absurd (List.mem_singleton.mp z) (Nat.ne_of_lt (Nat.lt_succ_of_lt hb))
      · cases r2 with
        | error e => exact hr2
        | ok fl2 =>
          cases fl2 with
          | next => exact hr2.elim
          | brk => exact hr2.elim
          | cont => exact hr2.elim
          | ret r =>
            obtain ⟨rfl, h', tk, rfl, set', old⟩ := hr2
            repeat (any_goals (first | assumption | wp_step))
            exact k _ _ set' old

set_option maxHeartbeats 16000000 in
/-- set(xs), xs a tuple of texts -/
theorem set_of_tuple {l : Addr} {items : Array Value} {xs : List Str} {Q : Value → Shared → Prop} (hh : A.handled = none) (hl : s.heap.IsTuple l items) (hi : StrsAre items.toList xs) (hn : xs.length + 1 < scanBound)
    (k : ∀ (h' : Heap) (tk : Nat), h'.SetOf (PySem.strKind prog w) s.heap.objs.size (among xs) (dis xs) → (∀ b o, b < s.heap.objs.size → s.heap.get? b = some o → h'.get? b = some o) → Q (.ref s.heap.objs.size) { s with heap := h', toks := tk }) :
    wpAny (model prog w) A (call (.type "set") [.ref l]) Q E s := by
  obtain ⟨cc, tl, mro⟩ := PySem.F.called_set.mro
  have made := PySem.F.called_set.made
  have isub := PySem.F.called_set.sub
  refine wpAny_call (codeAny_of_tree ?_)
  show wpAny _ _ (callAny (.type "set") _) _ _ _
  refine wpAny_pure ⟨Code.quiet_builtin _ (by decide +kernel), codeAny_builtin PySem.F.entry_type_call ?_⟩
  rw [Around.under_plain (weight_type_call_type "set" [.ref l] []) rfl]
  have f1 := PySem.F.called_set.notType
  have f2 := PySem.F.called_set.canCreate
  have f3 := PySem.F.typeCall_set_1 (.ref l)
  repeat (any_goals (first | assumption | wp_step))
  refine codeAny_mono (code_set_new_1 (.ref l) (E := E) (Q₁ := fun ob s1 => ∃ led : Bool, ob = .ref s.heap.objs.size ∧ s1 = { s with heap := s.heap.push (newSet led) }) fun led => ⟨led, rfl, rfl⟩) fun r s1 hr => ?_
  cases r with
  | error e => exact hr
  | ok fl =>
    cases fl with
    | next => exact hr.elim
    | brk => exact hr.elim
    | cont => exact hr.elim
    | ret ob =>
      obtain ⟨led, rfl, rfl⟩ := hr
      have atS : (s.heap.push (newSet led)).get? s.heap.objs.size = some (newSet led) := Heap.get?_push_size _ rfl
      have ty : Shared.TypeIs { s with heap := s.heap.push (newSet led) } (.ref s.heap.objs.size) "set" := ⟨_, atS, rfl⟩
      have i1 := PySem.F.called_set.init.lookup
      have i2 := PySem.F.called_set.init.bind (.ref s.heap.objs.size)
      repeat (any_goals (first | assumption | wp_step))
      refine codeAny_mono (codeAny_call_builtin (R := wants (fun r s2 => r = .none ∧ ∃ h' tk, s2 = { s with heap := h', toks := tk } ∧ h'.SetOf (PySem.strKind prog w) s.heap.objs.size (among xs) (dis xs) ∧ (∀ b o, b < s.heap.objs.size → s.heap.get? b = some o → h'.get? b = some o)) E) PySem.F.called_set.init.plain PySem.F.entry_set_init (check_set_init_1 ty ?_)) fun r2 s2 hr2 => ?_
      · obtain ⟨ol, hol, hcl, nl, hdl⟩ := hl
        obtain ⟨oc, od, oda, osl⟩ := ol
        simp only at hcl hdl
        subst hcl hdl
        have hol' : (s.heap.push (newSet led)).get? l = some { cls := .type "tuple", dict := od, data := .seq items nl, slots := osl } := Heap.get?_push_of_some _ hol
        have g1 := PySem.F.sub_tuple_set
        have g2 := PySem.F.sub_tuple_frozenset
        have g3 : (Value.type "tuple" == Value.type "dict") = false := by decide
        have hl1 : (s.heap.push (newSet led)).IsTuple l items := ⟨_, hol', rfl, nl, rfl⟩
        unfold newSet at hol' hl1 ty atS ⊢
        unfold Builtin.«set.__init__» noKeywords Builtin.Frozenset.updateFrom
        generalize hPI : pyIter = PI
        wp_walk
        subst hPI
        refine wpAny_pyIter_tuple hl1 ?_
        refine wpAny_bind (wpAny_runValue ?_)
        have ls : l < s.heap.objs.size := Heap.lt_size hol
        have hh3 : A.in1.in1.in1.handled = none := by simp [hh]
        have sz : (s.heap.push (newSet led)).objs.size = s.heap.objs.size + 1 := Heap.size_push _ _
        unfold newSet at sz
        have n1 : l ≠ (s.heap.push { cls := .type "set", dict := none, data := .set #[] 0 (.fresh 0 0 led) }).objs.size := by
          rw [sz]
          exact Nat.ne_of_lt (Nat.lt_succ_of_lt ls)
        have n2 : s.heap.objs.size ∉ [(s.heap.push { cls := .type "set", dict := none, data := .set #[] 0 (.fresh 0 0 led) }).objs.size, l] := by
          rw [sz]
          intro z
          rcases List.mem_cons.mp z with z | z
          · exact absurd z (Nat.ne_of_lt (Nat.lt_succ_self _))
          · exact absurd (List.mem_singleton.mp z) (Nat.ne_of_gt ls)
        have hsz : xs.length = items.size := by rw [← StrsAre.len_eq hi, Array.length_toList]
        have hval : ∀ (i : Nat) (v : Value), items[i]? = some v → ∃ t x, v = .str x t ∧ xs[i]? = some x := fun i v hv => by
          obtain ⟨t, e⟩ := SS.strs_at hi i v (by rw [Array.getElem?_toList]; exact hv)
          have hlt : i < xs.length := by
            rw [hsz]
            exact (Array.getElem?_eq_some_iff.mp hv).1
          exact ⟨t, xs[i], by
            rw [e, List.getD_eq_getElem?_getD, List.getElem?_eq_getElem hlt]
            rfl, List.getElem?_eq_getElem hlt⟩
        refine fill_strs ((Walks.tuple hh3 _ l n1 items).toS) s.heap.objs.size n2 xs hsz (by rw [← hsz]; exact hn) hval (items.size - 0) 0 _ (by omega) (Nat.zero_le _)
          ⟨⟨_, Heap.get?_push_size _ rfl, rfl, rfl⟩, (hl1.push _)⟩ ?hS0 ?hR
        case hS0 =>
          exact SetOf_congr ((setObjOf_fresh (knd := PySem.strKind prog w) led).setOf (Heap.get?_push_of_some _ atS) (by unfold scanBound; omega)) (fun _ => rfl) rfl
        case hR =>
          intro s' mv set'
          obtain ⟨h', g', d', tk', os'⟩ := s'
          obtain rfl : g' = s.gens := mv.gens
          obtain rfl : d' = s.drawn := mv.drawn
          obtain rfl : os' = s.os := mv.os
          show wpAny _ _ _ _ _ _
          refine wpAny_pure ?_
          show wpAny _ _ (ret Value.none) _ _ _
          refine wpAny_pure ⟨rfl, h', tk', rfl, set', fun b o hb e => ?_⟩
          refine mv.heap b o ?_ (Heap.get?_push_of_some _ (Heap.get?_push_of_some _ e))
          rw [sz]
          intro z
          rcases List.mem_cons.mp z with z | z
          · exact absurd z (Nat.ne_of_lt hb)
          · exact absurd (List.mem_singleton.mp z) (Nat.ne_of_lt (Nat.lt_succ_of_lt hb))
      · cases r2 with
        | error e => exact hr2
        | ok fl2 =>
          cases fl2 with
          | next => exact hr2.elim
          | brk => exact hr2.elim
          | cont => exact hr2.elim
          | ret r =>
            obtain ⟨rfl, h', tk, rfl, set', old⟩ := hr2
            repeat (any_goals (first | assumption | wp_step))
            exact k _ _ set' old
end
section
variable {X : Cx}
/-- len(set(xs)) -/
def tLenS (K : PySem.W.Frag) (ta : TE) : TE := fun σ H Q => ta σ H fun x H1 => ∃ (l : Addr) (xs : List Str), x = .ref l ∧ (SqL K H1 l (xs.map V.str) ∨ SqT K H1 l (xs.map V.str)) ∧ xs.length ≤ 100 ∧ Q (.int (dis xs)) H1
theorem small100 {n : Nat} (h : n ≤ 100) : n + 1 < scanBound := by
  unfold scanBound
  omega
theorem pe_lenS {a : Expr} {ta : TE} {p p2 q pos : Pos} (hc : X.calm = true) (hm : X.mg "len" = none) (hm2 : X.mg "set" = none) (ha : PE X a ta) (hg : Gl X "len" := by rfl) (hg2 : Gl X "set" := by rfl)
    (na : starEach [a] X.env = (false, eval a X.env) :: starEach [] X.env := by rfl) : PE X (.Call (.Name "len" p) [.Call (.Name "set" p2) [a] [] q] [] pos) (tLenS X.K ta) := by
  refine ⟨fun pins s σ H Q I h => ?_⟩
  refine Call_ (ld_blt I hg hm boot_len ?_)
  refine callWith_builtin1 (args_cons ?_ rfl) rfl rfl
  refine Call_ (ld_blt I hg2 hm2 boot_set ?_)
  refine callWith_type1 (args_cons (thn (ha.run pins s σ H _ I h) fun v s1 ⟨x, H1, I1, r1, q1⟩ => args_nil ?_) na) na rfl
  obtain ⟨l, xs, rfl, hq, h1, q1⟩ := q1
  cases r1
  have fin : ∀ (h' : Heap) (tk : Nat), h'.SetOf (PySem.strKind X.prog X.w) s1.heap.objs.size (among xs) (dis xs) → (∀ b o, b < s1.heap.objs.size → s1.heap.get? b = some o → h'.get? b = some o) →
      wpAny (model X.prog X.w) X.A (spliced (backTo pos (starEach [] X.env))) (fun vs s2 => wpAny (model X.prog X.w) X.A (call (.builtin "len") (Value.ref s1.heap.objs.size :: vs)) (EP X pins σ Q) X.xe s2) X.xe { s1 with heap := h', toks := tk } := fun h' tk hS hk => by
    refine args_nil ?_
    obtain ⟨o, es, ep, t, ho, hex, hd, _, _, _, hf, hn⟩ := hS
    have I2 : Inv X pins σ H1 { s1 with heap := h', toks := tk } := I1.kept fun b o e => hk b o (Heap.lt_size e) e
    have le := dis_le xs
    refine call_len_set ho hex hd hf (by rw [hn]; omega) ⟨.int (dis xs), H1, I2.tok _, ⟨_, by rw [hn]⟩, q1⟩
  rcases hq with hq | hq
  · obtain ⟨its, r, pl, hz⟩ := I1.list hq
    exact set_of_list (I1.ok.hd hc) pl.isList (by simpa using strsAre_of r) (small100 h1) fin
  · obtain ⟨its, r, pl, hz⟩ := I1.tuple hq
    exact set_of_tuple (I1.ok.hd hc) pl (by simpa using strsAre_of r) (small100 h1) fin
end
end Fm

/-! ## FmIter -/
set_option Elab.async false
set_option maxRecDepth 100000
set_option maxHeartbeats 4000000
/-! Walks over what may be a list or a tuple; enumerate of a tuple. -/
namespace Fm
open PySem L2 PySem.Spec PyProof.Rows
open PySem.SeqAt
open MeetsSeq MeetsSeq2 MeetsSeq3 SeqRoads2
theorem draws_tuple {prog : Program} {w : World} {A : Around} (hh : A.handled = none) (it l : Addr) (hne : l ≠ it) (items : Array Value) :
    Draws prog w A it [it, l] items.size (fun i v => items[i]? = some v) (fun i h => h.IsTupleIter it l i ∧ h.IsTuple l items) where
  live := fun _ _ z => let ⟨o, ho, _⟩ := z.1; ⟨o, ho⟩
  frame := fun _ _ _ z k => ⟨z.1.at fun o e => k it (by simp) o e, let ⟨o, ho, r⟩ := z.2; ⟨o, k l (by simp) o ho, r⟩⟩
  item := fun i s Q E hi z q => RZ.nextOf_tuple_item z.1 z.2 (x := items[i]) (by simp [hi]) fun h' it' sb => q _ h' s.toks (by simp [hi]) ⟨it', let ⟨o, ho, r⟩ := z.2; ⟨o, (sb.2 l hne).trans ho, r⟩⟩ sb
  done := fun s Q E z q => RZ.nextOf_tuple_end hh z.1 z.2 (by simp) q
theorem meets_enum_tuple (l : Addr) (items : Array Value) (n : Nat) (dct : Option Addr) (sl : Array (Option Value)) :
    Meets (Builtin.«enumerate.__new__» ⟨[.type "enumerate", .ref l], []⟩) (fun _ R s => s.heap.get? l = some { cls := .type "tuple", dict := dct, data := .seq items n, slots := sl } ∧
      R (.ok (.ret (.ref (s.heap.push { cls := .type "tuple_iterator", data := .fields #[.ref l, .int 0 0] }).objs.size)))
        { s with heap := (s.heap.push { cls := .type "tuple_iterator", data := .fields #[.ref l, .int 0 0] }).push { cls := .type "enumerate", data := .fields #[.none, .bool false, .ref s.heap.objs.size, rawInt 0, .none, .none] } }) :=
  .of_wp fun prog w A R s h => by
    obtain ⟨hp, g, d, tk, os⟩ := s
    obtain ⟨hl, h⟩ := h
    have sub := sub_enumerate
    have tup : Heap.IsTuple (Shared.heap ⟨hp, g, d, tk, os⟩) l items := ⟨_, hl, rfl, n, rfl⟩
    wp_walk using AutoSeq1.wpAny_loadPart' hl
    refine wpAny_stack_any fun st => wpAny_pure ?_
    split
    · rename_i c _ _ _ _ _
      cases (c == Value.type "enumerate") <;>
        (wp_walk using AutoSeq1.wpAny_loadPart' hl, wpAny_pyIter_tuple tup; exact ⟨_, rfl, h⟩)
    · wp_walk using AutoSeq1.wpAny_loadPart' hl, wpAny_pyIter_tuple tup
      exact ⟨_, rfl, h⟩
section
variable {prog : Program} {w : World} {A : Around} {E : Value → Shared → Prop} {s : Shared}
theorem call_enum_tuple {l : Addr} {items : Array Value} {Q : Value → Shared → Prop} (ht : s.heap.IsTuple l items)
    (k : ∀ h', IsEnum h' (s.heap.objs.size + 1) s.heap.objs.size 0 .none → h'.IsTupleIter s.heap.objs.size l 0 → (∀ b o, s.heap.get? b = some o → h'.get? b = some o) → Q (.ref (s.heap.objs.size + 1)) { s with heap := h' }) :
    wpAny (model prog w) A (call (.type "enumerate") [.ref l]) Q E s := by
  obtain ⟨⟨c, dct, dt, sl⟩, hl, hc, n, hd⟩ := ht
  simp only at hc hd
  subst hc hd
  refine callType_new F.called_enumerate (by decide) (F.typeCall_enumerate_1 _) (F.newCall_enumerate_1 _) (fun ob => F.args_object_init_2 ob _) F.entry_enumerate_new (meets_enum_tuple l items n dct sl) ⟨hl, ?_⟩
  have sz : (s.heap.push { cls := .type "tuple_iterator", data := .fields #[.ref l, .int 0 0] }).objs.size = s.heap.objs.size + 1 := Heap.size_push ..
  show _ ∧ _
  have he := Heap.get?_push_size (s.heap.push { cls := .type "tuple_iterator", data := .fields #[.ref l, .int 0 0] }) (o := { cls := .type "enumerate", data := .fields #[.none, .bool false, .ref s.heap.objs.size, rawInt 0, .none, .none] }) rfl
  rw [sz] at he ⊢
  exact ⟨⟨_, he, rfl⟩, k _ he ⟨_, Heap.get?_push_of_some _ (Heap.get?_push_size _ rfl), rfl, rfl⟩ fun b o x => Heap.get?_push_of_some _ (Heap.get?_push_of_some _ x)⟩
end
/-- the tuple at a, its items in new pairs with their numbers -/
def Iet (K : PySem.W.Frag) (a : Addr) : It :=
  ⟨fun i H => ∃ xs x, SqT K H a xs ∧ xs[i]? = some x, fun i H v H' => ∃ T x, v = .ref T ∧ H T = none ∧ H' = upd H T (.tup [.int (i : Nat), x]) ∧ ∀ xs, SqT K H a xs → xs[i]? = some x, fun i H => ∃ xs, SqT K H a xs ∧ xs.length ≤ i⟩
theorem turn_et {P : Program} {w : World} {K : PySem.W.Frag} {elts : List Expr} {kk : Nat} {tpos : Pos} (a e it : Addr) (hai : a ≠ it) (hae : e ≠ a) :
    Turn P w K (.Tuple elts kk tpos) (Iet K a) [e, it] e (fun i h => (∃ old, IsEnum h e it ((i : Nat) : Int) old) ∧ h.IsTupleIter it a i ∧ e ≠ it) where
  mem := List.mem_cons_self
  obj := fun i h st b hb => by
    obtain ⟨⟨old, he⟩, ⟨o, ho, hc, hd⟩, _⟩ := st
    rcases List.mem_cons.mp hb with z | z
    · rw [z]
      exact ⟨_, he, fun v q => nomatch q⟩
    · rw [List.mem_singleton.mp z]
      exact ⟨o, ho, fun v q => by rw [hd] at q; cases q⟩
  keep := fun i h h' st k => by
    obtain ⟨⟨old, he⟩, hi, hne⟩ := st
    exact ⟨⟨old, k e (by simp) _ he⟩, hi.at fun o q => k it (by simp) o q, hne⟩
  item := by
    intro X hP hw hK hc i pins s σ H E I hf st hg
    subst hP hw hK
    obtain ⟨⟨old, he⟩, hit, hne⟩ := st
    obtain ⟨xs, x, hq, hx⟩ := hg
    obtain ⟨its, rv, tp, hz⟩ := I.tuple hq
    obtain ⟨u, hu, ru⟩ := rv.get hx
    have el : e < s.heap.objs.size := Heap.lt_size he
    have il : it < s.heap.objs.size := by
      obtain ⟨_, q, _⟩ := hit
      exact Heap.lt_size q
    have lt : i < its.toArray.size := by
      rw [List.size_toArray]
      exact (List.getElem?_eq_some_iff.mp hu).1
    have out : e ∉ [it, a] := by
      intro z
      rcases List.mem_cons.mp z with z | z
      · exact hne z
      · exact hae (List.mem_singleton.mp z)
    refine wpAny_pyNext_enum_itemD (draws_tuple (by show X.A.in1.handled = none; simpa using I.ok.hd hc) it a hai its.toArray) he ⟨hit, tp⟩ lt hne out fun y h' tk py ho hst' hT hsz hk => ?_
    obtain rfl : u = y := by
      have z : its.toArray[i]? = some u := by simpa using hu
      rw [z] at py
      exact Option.some.inj py
    refine ⟨_, rfl, wpAny_letOwnedTupleGo_enum (s := { s with heap := h', toks := tk + 1 }) ho fun h2 he2 sb => ?_⟩
    have hT2 : h2.get? s.heap.objs.size = some { cls := .type "tuple", data := .seq #[.int i tk, u] } := (sb.2 _ (Nat.ne_of_gt el)).trans hT
    have new : ObjOk X.prog X.w (upd H s.heap.objs.size (.tup [.int (i : Nat), x])) h2 s.heap.objs.size (.tup [.int (i : Nat), x]) :=
      ⟨by show 2 ≤ sizeLine; decide, [.int i tk, u], .cons ⟨_, rfl⟩ (.cons ru .nil), ⟨_, hT2, rfl, _, rfl⟩⟩
    have I1 : Inv X pins σ (upd H s.heap.objs.size (.tup [.int (i : Nat), x])) { s with heap := h2, toks := tk + 1 } :=
      I.turnedNew (ch := [e, it]) (fun b ob hb q => (sb.2 b (fun z => hb (by simp [z]))).trans (hk b ob (fun z => hb (by simp [z])) (fun z => hb (by simp [z])) q)) hf (Nat.le_refl _) new
    refine ⟨.ref s.heap.objs.size, _, I1, rfl, ⟨_, x, rfl, I.hok.fresh (Nat.le_refl _), rfl, fun ys hy => by rw [I.tuple_inj hy hq]; exact hx⟩, ⟨⟨u, ?_⟩, hst'.1.at fun o q => (sb.2 it (Ne.symm hne)).trans q, hne⟩, fun b hb => ?_⟩
    · rw [show ((i + 1 : Nat) : Int) = (i : Int) + 1 from rfl]
      exact he2
    · have lt' : b < s.heap.objs.size := by
        rcases List.mem_cons.mp hb with z | z
        · rw [z]; exact el
        · rw [List.mem_singleton.mp z]; exact il
      rw [upd_ne (Nat.ne_of_lt lt')]
      exact (hf b hb).1
  done := by
    intro X hP hw hK hc i pins s σ H E I hf st hg
    subst hP hw hK
    obtain ⟨⟨old, he⟩, hit, hne⟩ := st
    obtain ⟨xs, hq, hx⟩ := hg
    obtain ⟨its, rv, tp, hz⟩ := I.tuple hq
    obtain ⟨f0, f1, f2, f3, f4, f5⟩ := hf it (by simp)
    have len := rv.length
    have hh : X.A.in1.handled = none := by simpa using I.ok.hd hc
    have hT : s.TypeIs (.ref e) "enumerate" := ⟨_, he, rfl⟩
    unfold pyNext
    refine wpAny_bind (wpAny_attempt (wpAny_callSpecial?_slot (name := Str.ofString "__next__") hT F.slot_enumerate_next (wpAny_call_entry F.slot_enumerate_next hT F.entry_enumerate_next ?_ (F.args_enumerate_next_1 _))))
    show wpAny _ _ (field (.ref e) 2 >>= _) _ _ _
    refine wpAny_bind (wpAny_field he rfl (x := .ref it) rfl ?_)
    refine wpAny_bind (RZ.nextOf_tuple_end hh hit tp (by simp; omega) fun h' x he' hx' => ?_)
    obtain ⟨o, ho, hc'⟩ := hx'
    refine wpAny_bind (wpAny_isInstance (T := "StopIteration") (b := true) ⟨o, ho, hc'⟩ isSubtype_stop ?_)
    exact wpAny_pure ⟨rfl, I.turned (t' := s.toks) (fun b o hb q => he' b o hb q) f0 f1 f3 f4 f5⟩
  self := fun A i s Q E st h => let ⟨⟨_, he⟩, _⟩ := st; wpAny_pyIter_enum he h
theorem walk_et {K : PySem.W.Frag} {a : Addr} {xs : List V} : Walk (Iet K a) xs.length (fun H => SqT K H a xs) (YPair (fun i => some (.int (i : Nat))) (fun i => xs[i]?)) := by
  refine ⟨fun i _ hi q => ⟨xs, xs[i], q, by simp [hi]⟩, fun _ q => ⟨xs, q, Nat.le_refl _⟩, fun i H v H' _ q y => ?_⟩
  obtain ⟨T, x, h1, h2, h3, h4⟩ := y
  exact ⟨T, .int (i : Nat), x, h1, h2, h3, rfl, h4 xs q⟩
section
variable {X : Cx} {tg l : Expr} {tl : TE}
/-- the walk of a list or of a tuple, whichever it is -/
def SeqGo (K : PySem.W.Frag) (H : Hp) (a : Addr) (xs : List V) (R : It → Hp → Prop) : Prop := (SqL K H a xs ∧ R (Itl K a) H) ∨ (SqT K H a xs ∧ R (Itt K a) H)
def EnumGo (K : PySem.W.Frag) (H : Hp) (a : Addr) (xs : List V) (R : It → Hp → Prop) : Prop := (SqL K H a xs ∧ R (Ite K a) H) ∨ (SqT K H a xs ∧ R (Iet K a) H)
/-- over a list or a tuple -/
def iAny (K : PySem.W.Frag) (tl : TE) : TI := fun σ H R => tl σ H fun x H1 => ∃ (a : Addr) (xs : List V), x = .ref a ∧ SeqGo K H1 a xs R
theorem pi_any (hl : PE X l tl) : PI X tg l (iAny X.K tl) := by
  refine ⟨fun pins s σ H R I h => thn (hl.run pins s σ H _ I h) fun v s1 ⟨x, H1, I1, r1, a, xs, ex, q⟩ => ?_⟩
  subst ex
  cases r1
  have free : ∀ b ∈ [s1.heap.objs.size], b = s1.heap.objs.size := fun b hb => List.mem_singleton.mp hb
  rcases q with ⟨hq, q⟩ | ⟨hq, q⟩
  · obtain ⟨its, rv, lp, hz⟩ := I1.list hq
    refine wpAny_pyIter_list lp.isList ⟨s1.heap.objs.size, [s1.heap.objs.size], _, _, H1, rfl, I1.kept (t' := s1.toks) fun b o e => Heap.get?_push_of_some _ e, turn_list a _, ⟨_, Heap.get?_push_size _ rfl, rfl, rfl⟩, fun b hb => ?_, q⟩
    rw [free b hb]
    exact I1.fpOk (Nat.le_refl _) (I1.hok.fresh (Nat.le_refl _))
  · obtain ⟨its, rv, tp, hz⟩ := I1.tuple hq
    refine wpAny_pyIter_tuple (show s1.heap.IsTuple a its.toArray from tp) ⟨s1.heap.objs.size, [s1.heap.objs.size], _, _, H1, rfl, I1.kept (t' := s1.toks) fun b o e => Heap.get?_push_of_some _ e, turn_tuple a _, ⟨_, Heap.get?_push_size _ rfl, rfl, rfl⟩, fun b hb => ?_, q⟩
    rw [free b hb]
    exact I1.fpOk (Nat.le_refl _) (I1.hok.fresh (Nat.le_refl _))
theorem any_of {K : PySem.W.Frag} {H0 H : Hp} {a : Addr} {xs : List V} {R : It → Hp → Prop} (h : SqL K H0 a xs ∨ SqT K H0 a xs) (s : Same H0 H)
    (go : ∀ (J : It) (G : Hp → Prop), (∀ H', Same H0 H' → G H') → Walk J xs.length G (YAt xs) → R J H) : SeqGo K H a xs R := by
  rcases h with h | h
  · exact .inl ⟨s.seq h, go _ _ (fun H' s => s.seq h) walk_list⟩
  · exact .inr ⟨SqT.ext h s, go _ _ (fun H' s => SqT.ext h s) walk_tup⟩
theorem enum_of {K : PySem.W.Frag} {H0 H : Hp} {a : Addr} {xs : List V} {R : It → Hp → Prop} (h : SqL K H0 a xs ∨ SqT K H0 a xs) (s : Same H0 H)
    (go : ∀ (J : It) (G : Hp → Prop), (∀ H', Same H0 H' → G H') → Walk J xs.length G (YPair (fun i => some (.int (i : Nat))) (fun i => xs[i]?)) → R J H) : EnumGo K H a xs R := by
  rcases h with h | h
  · exact .inl ⟨s.seq h, go _ _ (fun H' s => s.seq h) walk_enum⟩
  · exact .inr ⟨SqT.ext h s, go _ _ (fun H' s => SqT.ext h s) walk_et⟩
/-- enumerate of a list or a tuple -/
def iEnumA (K : PySem.W.Frag) (ta : TA) : TI := fun σ H R => ta σ H fun vs H1 => ∃ (a : Addr) (xs : List V), vs = [.ref a] ∧ EnumGo K H1 a xs R
theorem pi_enumA {e : Expr} {ta : TA} {p pos tpos : Pos} {elts : List Expr} {kk : Nat} (hg : Gl X "enumerate") (hm : X.mg "enumerate" = none) (ha : PA X [e] ta) (hs : starEach [e] X.env = [(false, eval e X.env)] := by rfl) :
    PI X (.Tuple elts kk tpos) (.Call (.Name "enumerate" p) [e] [] pos) (iEnumA X.K ta) := by
  refine ⟨fun pins s σ H R I h => ?_⟩
  refine Call_ (ld_blt I hg hm boot_enumerate (PyProof.Rows.callWith_type1 (thn (ha.run pos pins s σ H _ I h) fun us s1 ⟨vs, H1, I1, r1, a, xs, ex, q⟩ => ?_) hs rfl))
  subst ex
  cases r1 with
  | cons r rr =>
    cases rr
    cases r
    have old : ∀ b ∈ [s1.heap.objs.size + 1, s1.heap.objs.size], s1.heap.objs.size ≤ b := fun b hb => by
      rcases List.mem_cons.mp hb with z | z
      · rw [z]; exact Nat.le_add_right _ _
      · rw [List.mem_singleton.mp z]; exact Nat.le_refl _
    rcases q with ⟨hq, q⟩ | ⟨hq, q⟩
    · obtain ⟨its, rv, lp, hz⟩ := I1.list hq
      refine call_enumerate_list lp.isList fun h' he hit hsz hk => wpAny_pyIter_enum he ?_
      exact ⟨s1.heap.objs.size + 1, [s1.heap.objs.size + 1, s1.heap.objs.size], _, _, H1, rfl, I1.kept (t' := s1.toks) hk, turn_enum a (s1.heap.objs.size + 1) s1.heap.objs.size, ⟨⟨.none, he⟩, hit, Nat.succ_ne_self _⟩, fun b hb => I1.fpOk (old b hb) (I1.hok.fresh (old b hb)), q⟩
    · obtain ⟨its, rv, tp, hz⟩ := I1.tuple hq
      have al : a < s1.heap.objs.size := by
        obtain ⟨o, ho, _⟩ := tp
        exact Heap.lt_size ho
      refine call_enum_tuple tp fun h' he hit hk => wpAny_pyIter_enum he ?_
      exact ⟨s1.heap.objs.size + 1, [s1.heap.objs.size + 1, s1.heap.objs.size], _, _, H1, rfl, I1.kept (t' := s1.toks) hk, turn_et a (s1.heap.objs.size + 1) s1.heap.objs.size (Nat.ne_of_lt al) (Nat.ne_of_gt (Nat.lt_succ_of_lt al)), ⟨⟨.none, he⟩, hit, Nat.succ_ne_self _⟩, fun b hb => I1.fpOk (old b hb) (I1.hok.fresh (old b hb)), q⟩
end
end Fm

/-! ## FmEq -/
set_option Elab.async false
set_option maxRecDepth 100000
set_option maxHeartbeats 4000000
/-! == by a class's own __eq__, beside anything; != of two of its objects. -/
namespace Fm
open PySem L2 PySem.Spec PyProof.Rows
section
variable {X : Cx} {k : Nat} {f C : Addr} {fd : FuncData} {ps : List Str} {sp : Sp}
/-- a call of the class's __eq__ answers as it promises -/
theorem run_eq {pins : List (Addr × Obj)} {σ : L2.St} {H : Hp} {s : Shared} {A : Around} {x y : V} {a : Addr} {v : Value} {R : Bool → Hp → Prop} (F : FnOk X.prog X.w X.K X.mg X.base CX0 k f fd ps sp) (hb : Binds X.K fd ps []) (hr : Room k A) (hf : A.frames = X.A.frames)
    (I : Inv X pins σ H s) (ex : x = .ref a) (ry : RelV y v) (h : sp [x, y] H (fun z H' => ∃ b, z = .bl b ∧ R b H') E0) :
    wpAny (model X.prog X.w) A (call (.ref f) [.ref a, v]) (fun r s' => ∃ b H', r = .bool b ∧ Inv X pins σ H' s' ∧ R b H') X.xe s := by
  subst ex
  have e := I.env0
  have e0 : Env0 X.prog X.w X.K X.mg X.base A X.stack s H := ⟨by rw [hf]; exact e.frames, e.mod, e.bs, e.bsz, e.funs, e.frf, e.hok, e.bare⟩
  have r2 : Vals [V.ref a, y] [Value.ref a, v] := .cons rfl (.cons ry .nil)
  have hl := F.len _ _ _ _ h
  have bt := hb s [.ref a, v] I.kIn (by simpa using hl)
  refine wpAny_call (codeAny_mono (F.run A X.stack s H ⟨[.ref a, v], []⟩ [.ref a, v] [.ref a, y] _ E0 hr e0 (by simpa using bt) r2 h) fun r s' hq => ?_)
  cases r with
  | error er => exact absurd hq (by intro z; exact z)
  | ok fl =>
    cases fl with
    | next => exact False.elim hq
    | brk => exact False.elim hq
    | cont => exact False.elim hq
    | ret u =>
      obtain ⟨z, H', I', rz, b, ez, q⟩ := I.after hq
      subst ez
      cases rz
      exact ⟨b, H', rfl, I', q⟩
/-- x == y, x of the class at C -/
def rEqI (K : PySem.W.Frag) (C : Addr) (sp : Sp) : R2 := fun x y H Q => ∃ (a dx : Addr) (fs : List (Str × V)) (t : Value), x = .ref a ∧ H a = some (.ins C dx fs) ∧ TyX K H y t ∧ PySem.W.notFirst K C t = true ∧ sp [x, y] H (fun z H' => ∃ b, z = .bl b ∧ Q (.bl b) H') E0
theorem op_eqI' (F : FnOk X.prog X.w X.K X.mg X.base CX0 k f fd ps sp) (hs : PySem.W.findIn X.K (.ref C) "__eq__" = some (some (.ref f))) (hf : PySem.W.isFn X.K (.ref f) = true) (hb : Binds X.K fd ps []) (hr : Room k X.A) :
    OpR X (compareOp .Eq) (rEqI X.K C sp) := by
  intro pins s σ H x y v u Q I rx ry h
  obtain ⟨a, dx, fs, t, ex, ha, ty, hn, hsp⟩ := h
  have ex' := ex
  subst ex
  cases rx
  obtain ⟨mA, J, _⟩ := ins_get I.hok ha
  obtain ⟨od, J, _⟩ := J.look
  obtain ⟨m, hF⟩ := I.fr
  obtain ⟨Pz, Z, pz, _⟩ := kit_of I ry ty
  show wpAny (model X.prog X.w) X.A (richCompare .Eq (.ref a) u) (EP X pins σ Q) X.xe s
  refine PySem.W.cmp_K (op := .Eq) (tb := t) hr.units0 hF I.ok.mod.kin J (Z.ty _ _ I.kIn pz) hn hs hf ?_
  refine wpAny_mono (run_eq (R := fun b H' => Q (.bl b) H') F hb hr rfl I ex' ry hsp) (fun r s' z => ?_) fun _ _ z => z
  obtain ⟨b, H', er, I', q⟩ := z
  subst er
  exact ⟨.bl b, H', I', rfl, q⟩
theorem if_builtin {M : Model} {A : Around} {E : Value → Shared → Prop} {s : Shared} {K : PySem.W.Frag} {x : Addr} {ox : Obj} {od : Option Obj} {name : Str} {T id : String} {args : List Value} {Q : Option Value → Shared → Prop}
    (X : K.In s.heap) (I : PySem.W.InstAt s.heap x ox C od) (hs : PySem.W.findIn K (.ref C) name = some (some (.builtin id))) (sl : Slot T name id) (h : wpAny M A (call (.builtin id) (.ref x :: args)) (fun v => Q (some v)) E s) :
    wpAny M A (callSpecialIfBound? (.ref x) name args) Q E s := by
  simp only [callSpecialIfBound?, bindSpecialIfBound?]
  refine wpAny_holding (wpAny_bind (wpAny_bind (wpAny_bind (I.type.here ((PySem.W.looks_findIn X hs).here ?_)))))
  refine wpAny_bind (wpAny_askSetting (wpAny_ite ?_))
  have fin : wpAny M A (call (.builtin id) ([.ref x] ++ args) >>= fun v => pure (some v)) Q E s := wpAny_bind (wpAny_mono h (fun v s' z => wpAny_pure z) fun _ _ z => z)
  rw [sl.bind (.ref x)]
  split
  · exact wpAny_bind (wpAny_pure (wpAny_pure (by exact fin)))
  · exact wpAny_tryCatch (wpAny_bind (wpAny_pure (wpAny_pure (by exact fin))))
/-- x != y, both of the class at C, which has no __ne__ of its own -/
def rNeI (C : Addr) (sp : Sp) : R2 := fun x y H Q => ∃ (a b dx dy : Addr) (fs gs : List (Str × V)), x = .ref a ∧ y = .ref b ∧ H a = some (.ins C dx fs) ∧ H b = some (.ins C dy gs) ∧ sp [x, y] H (fun z H' => ∃ c, z = .bl c ∧ Q (.bl (!c)) H') E0
theorem op_neI' (F : FnOk X.prog X.w X.K X.mg X.base CX0 k f fd ps sp) (hs : PySem.W.findIn X.K (.ref C) "__eq__" = some (some (.ref f))) (hf : PySem.W.isFn X.K (.ref f) = true) (hb : Binds X.K fd ps []) (hr : Room (k + 1) X.A)
    (hn : PySem.W.findIn X.K (.ref C) "__ne__" = some (some (.builtin "object.__ne__"))) (hm : PySem.W.mroIn X.K C (.type "object") = some true) :
    OpR X (compareOp .NotEq) (rNeI C sp) := by
  intro pins s σ H x y v u Q I rx ry h
  obtain ⟨a, b, dx, dy, fs, gs, ex, ey, ha, hb', hsp⟩ := h
  have ex' := ex
  have ey' := ey
  subst ex ey
  cases rx
  cases ry
  obtain ⟨mA, J, _⟩ := ins_get I.hok ha
  obtain ⟨od, J, _⟩ := J.look
  obtain ⟨mB, J2, _⟩ := ins_get I.hok hb'
  obtain ⟨od2, J2, _⟩ := J2.look
  have hr1 : Room k X.A.in1 := hr.in1
  have run := run_eq (A := X.A.in1) (R := fun c H' => Q (.bl (!c)) H') F hb hr1 rfl I ex' (y := .ref b) (v := .ref b) rfl hsp
  have units : X.A.in1.units < cLine := hr1.units0
  have body : wpAny (model X.prog X.w) X.A.in1 (Builtin.«object.__ne__» ⟨[.ref a, .ref b], []⟩) (fun fin s' => ∃ r, fin = .done (.ret r) ∧ EP X pins σ Q r s' ∧ r ≠ .notImplemented) X.xe s := by
    unfold Builtin.«object.__ne__»
    refine wpAny_bind (wpAny_of_eq (a := ((Value.ref a : Value), [Value.ref b])) (by first | rfl | (simp only [Builtin.slotArgs]; rfl)) ?_)
    refine wpAny_bind (wpAny_cRoomFor units ?_)
    refine wpAny_bind (PySem.W.ifBound_K I.kIn J hs hf (wpAny_mono run (fun r s' z => ?_) fun _ _ z => z))
    obtain ⟨c, H', er, I', q⟩ := z
    subst er
    refine wpAny_bind (wpAny_truthy_bool ?_)
    exact wpAny_pure ⟨_, rfl, ⟨.bl (!c), H', I', rfl, q⟩, fun z => nomatch z⟩
  have isub : PySem.W.Looks (model X.prog X.w) s.heap (isInstance (.ref a) (.type "object")) true := J.type.andThen (PySem.W.looks_mroIn I.kIn hm)
  have SF := PySem.F.cmp_object
  show wpAny (model X.prog X.w) X.A (richCompare .NotEq (.ref a) (.ref b)) (EP X pins σ Q) X.xe s
  unfold richCompare
  simp only [oneThing_ref]
  refine wpAny_holding (wpAny_bind (wpAny_cRoomFor hr.units0 ?_))
  rw [cmpInfo_NotEq]
  dsimp only
  refine wpAny_bind (J.type.here (wpAny_bind (J2.type.here ?_)))
  rw [show (Value.ref C != Value.ref C) = false from by simp]
  simp only [Bool.false_eq_true, if_false]
  refine wpAny_bind (wpAny_pure ?_)
  simp only [Bool.false_eq_true, if_false]
  unfold tryCompare
  refine wpAny_bind (wpAny_bind (if_builtin I.kIn J hn SF.ne (wpAny_call (codeAny_call_builtin SF.ne.plain PySem.F.cmpEntry_ne ?_))))
  refine PySem.W.check_slot PySem.F.cmpKind_ne PySem.F.cmpSplit_ne isub (PySem.F.cmpArgs_ne _ _) ?_
  refine wpAny_mono body (fun fin s' z => ?_) fun _ _ z => z
  obtain ⟨r, er, q, hr'⟩ := z
  subst er
  cases r
  case notImplemented => exact absurd rfl hr'
  all_goals exact wpAny_pure (wpAny_pure q)
/-- the class at C compares by a def of its own -/
structure Deq (P : Program) (w : World) (K : PySem.W.Frag) (mg : Str → Option Value) (base : Heap) (C : Addr) (k : Nat) (ps : List Str) (sp : Sp) : Prop where
  ex : ∃ (f : Addr) (fd : FuncData), FnOk P w K mg base CX0 k f fd ps sp ∧ PySem.W.findIn K (.ref C) "__eq__" = some (some (.ref f)) ∧ PySem.W.isFn K (.ref f) = true ∧ Binds K fd ps []
theorem op_eqO (D : Deq X.prog X.w X.K X.mg X.base C k ps sp) (hr : Room k X.A) : OpR X (compareOp .Eq) (rEqI X.K C sp) := by
  obtain ⟨f, fd, F, hs, hf, hb⟩ := D.ex
  exact op_eqI' F hs hf hb hr
theorem op_neO (D : Deq X.prog X.w X.K X.mg X.base C k ps sp) (hr : Room (k + 1) X.A) (hn : PySem.W.findIn X.K (.ref C) "__ne__" = some (some (.builtin "object.__ne__"))) (hm : PySem.W.mroIn X.K C (.type "object") = some true) :
    OpR X (compareOp .NotEq) (rNeI C sp) := by
  obtain ⟨f, fd, F, hs, hf, hb⟩ := D.ex
  exact op_neI' F hs hf hb hr hn hm
end
end Fm

/-! ## FmData -/
set_option Elab.async false
set_option maxRecDepth 100000
set_option maxHeartbeats 4000000
/-! Data as trees over heaps; names; what as_tuples makes of data. -/
namespace Fm
open PySem L2
section
variable {K : PySem.W.Frag} {H H' H1 H2 N M : Hp}
theorem same_sqT {a : Addr} {xs : List V} (e : Same H H') (h : SqT K H a xs) : SqT K H' a xs := by
  rcases h with (h | ⟨o, h⟩) | h
  · exact .inl (.inl (e _ _ h))
  · exact .inl (.inr ⟨o, e _ _ h⟩)
  · exact .inr h
mutual
theorem dp_mono (e : Same H H') : ∀ (d : PyData) (v : V), Dp K H v d → Dp K H' v d
  | .none, _, h => by cases h; exact .non
  | .bool b, _, h => by cases h; exact .bl b
  | .int i, _, h => by cases h; exact .int i
  | .str x, _, h => by cases h; exact .str x
  | .list ds, _, h => by
    cases h with
    | lst hs ha => exact .lst (e.seq hs) (dpA_mono e ds _ ha)
  | .tuple ds, _, h => by
    cases h with
    | tup hs ha => exact .tup (same_sqT e hs) (dpA_mono e ds _ ha)
  | .dict _, _, h => by cases h
theorem dpA_mono (e : Same H H') : ∀ (ds : List PyData) (vs : List V), DpAll K H vs ds → DpAll K H' vs ds
  | [], _, h => by cases h; exact .nil
  | d :: ds, _, h => by
    cases h with
    | cons h1 h2 => exact .cons (dp_mono e d _ h1) (dpA_mono e ds _ h2)
end
theorem dpA_len : ∀ {ds : List PyData} {vs : List V}, DpAll K H vs ds → vs.length = ds.length
  | [], _, h => by cases h; rfl
  | d :: ds, _, h => by
    cases h with
    | cons h1 h2 => rw [List.length_cons, List.length_cons, dpA_len h2]
theorem dpA_at : ∀ {ds : List PyData} {vs : List V} {i : Nat} {v : V}, DpAll K H vs ds → vs[i]? = some v → ∃ d, ds[i]? = some d ∧ Dp K H v d
  | [], _, i, v, h, e => by cases h; simp at e
  | d :: ds, _, 0, v, h, e => by
    cases h with
    | cons h1 h2 =>
      simp at e
      subst e
      exact ⟨d, rfl, h1⟩
  | d :: ds, _, i + 1, v, h, e => by
    cases h with
    | cons h1 h2 =>
      simp at e
      obtain ⟨z, q1, q2⟩ := dpA_at h2 e
      exact ⟨z, by simpa using q1, q2⟩
theorem dpA_snoc : ∀ {ds : List PyData} {vs : List V} {d : PyData} {v : V}, DpAll K H vs ds → Dp K H v d → DpAll K H (vs ++ [v]) (ds ++ [d])
  | [], _, d, v, h, q => by cases h; exact .cons q .nil
  | c :: ds, _, d, v, h, q => by
    cases h with
    | cons h1 h2 => exact .cons h1 (dpA_snoc h2 q)
theorem dpA_strs : ∀ (xs : List Str), DpAll K H (xs.map V.str) (xs.map PyData.str)
  | [] => .nil
  | x :: xs => .cons (.str x) (dpA_strs xs)
theorem dpA_strs_inv : ∀ {xs : List Str} {vs : List V}, DpAll K H vs (xs.map PyData.str) → vs = xs.map V.str
  | [], _, h => by cases h; rfl
  | x :: xs, _, h => by
    cases h with
    | cons h1 h2 =>
      cases h1
      rw [dpA_strs_inv h2]
      rfl
/-! ### what is new -/
/-- N holds things that are new behind H, as they stand in H' -/
def Fresh (H H' N : Hp) : Prop := ∀ a o, N a = some o → H a = none ∧ H' a = some o
def uni (N M : Hp) : Hp := fun a => match N a with
  | some o => some o
  | none => M a
def nil0 : Hp := fun _ => none
theorem fresh_nil : Fresh H H' nil0 := fun _ _ h => by cases h
theorem same_uni : Same N (uni N M) := fun a o h => by
  unfold uni
  rw [h]
theorem uni_or {a : Addr} {o : HO} (h : uni N M a = some o) : N a = some o ∨ (N a = none ∧ M a = some o) := by
  unfold uni at h
  cases q : N a with
  | some u =>
    rw [q] at h
    exact .inl h
  | none =>
    rw [q] at h
    exact .inr ⟨rfl, h⟩
theorem fresh_uni (f : Fresh H H1 N) (g : Fresh H1 H2 M) (s : Same H H1) (t : Same H1 H2) : Fresh H H2 (uni N M) := fun a o h => by
  rcases uni_or h with h | ⟨_, h⟩
  · exact ⟨(f a o h).1, t _ _ (f a o h).2⟩
  · exact ⟨s.free (g a o h).1, (g a o h).2⟩
theorem same_uni2 (f : Fresh H H1 N) (g : Fresh H1 H2 M) : Same M (uni N M) := fun a o h => by
  unfold uni
  cases q : N a with
  | none => exact h
  | some u =>
    have z := (f a u q).2
    rw [(g a o h).1] at z
    cases z
theorem fresh_back (s : Same H H1) (f : Fresh H1 H2 N) : Fresh H H2 N := fun a o h => ⟨s.free (f a o h).1, (f a o h).2⟩
theorem fresh_new (f : Fresh H H1 N) (s : Same H H1) {p : Addr} (o : HO) (hp : H1 p = none) : Fresh H (upd H1 p o) (upd N p o) := fun a u h => by
  by_cases e : a = p
  · subst e
    rw [upd_same] at h ⊢
    exact ⟨s.free hp, h⟩
  · rw [upd_ne e] at h ⊢
    exact f a u h
theorem same_freshNew (f : Fresh H H1 N) {p : Addr} (o : HO) (hp : H1 p = none) : Same N (upd N p o) := fun a u h => by
  have e : a ≠ p := fun z => by
    have q := (f a u h).2
    rw [z, hp] at q
    cases q
  rw [upd_ne e]
  exact h
/-- what is spoken of, and what is new, as one part of the heap -/
theorem grow_fresh {F : Hp} (s : Same F H) (t : Same H H') (f : Fresh H H' N) : Grow F H (uni F N) H' := by
  refine ⟨same_uni, fun a o h => ?_, fun a o h1 h2 => ⟨?_, t _ _ h2⟩⟩
  · rcases uni_or h with h | ⟨_, h⟩
    · exact t _ _ (s _ _ h)
    · exact (f a o h).2
  · unfold uni
    rw [h1]
    cases q : N a with
    | none => rfl
    | some u =>
      have z := (f a u q).1
      rw [h2] at z
      cases z
theorem same_grow {F : Hp} (s : Same F H) (f : Fresh H H' N) : Same N (uni F N) := fun a o h => by
  unfold uni
  cases q : F a with
  | none => exact h
  | some u =>
    have z := s a u q
    rw [(f a o h).1] at z
    cases z
theorem bag_same {F : Hp} {b : Addr} (B : Bag F H b) (t : Same H H') : Bag F H' b := by
  obtain ⟨s, fb, cl, ns, p, g, z, c, h, e1, e2, e3, e4, r⟩ := B
  exact ⟨s.trans t, fb, cl, ns, p, g, z, c, h, e1, e2, t _ _ e3, t _ _ e4, r⟩
end
/-! ### rows as tuples -/
mutual
def tupd : PyData → PyData
  | .list xs => .tuple (tupdL xs)
  | .tuple xs => .tuple (tupdL xs)
  | .none => .none
  | .bool b => .bool b
  | .int i => .int i
  | .str s => .str s
  | .dict kvs => .dict kvs
def tupdL : List PyData → List PyData
  | [] => []
  | d :: ds => tupd d :: tupdL ds
end
theorem tupdL_map : ∀ ds : List PyData, tupdL ds = ds.map tupd
  | [] => rfl
  | d :: ds => by
    show tupd d :: tupdL ds = tupd d :: ds.map tupd
    rw [tupdL_map ds]
/-- data of at most so many rows one in the other, none of them long -/
inductive Dn : Nat → PyData → Prop
  | none (n : Nat) : Dn (n + 1) .none
  | bool (n : Nat) (b : Bool) : Dn (n + 1) (.bool b)
  | int (n : Nat) (i : Int) : Dn (n + 1) (.int i)
  | str (n : Nat) (s : Str) : Dn (n + 1) (.str s)
  | list (n : Nat) (ds : List PyData) : (∀ d ∈ ds, Dn n d) → ds.length ≤ 100000 → Dn (n + 1) (.list ds)
  | tuple (n : Nat) (ds : List PyData) : (∀ d ∈ ds, Dn n d) → ds.length ≤ 100000 → Dn (n + 1) (.tuple ds)
theorem dn_strs {n : Nat} {xs : List Str} (h : xs.length ≤ 100000) : (∀ d ∈ xs.map PyData.str, Dn (n + 1) d) ∧ (xs.map PyData.str).length ≤ 100000 := by
  refine ⟨fun d m => ?_, by rw [List.length_map]; exact h⟩
  obtain ⟨x, _, rfl⟩ := List.mem_map.mp m
  exact .str n x
theorem bl_map {α : Type} (f : α → Bool) (xs : List α) : (xs.map fun c => V.bl (f c)) = (xs.map f).map V.bl := by
  rw [List.map_map]
  rfl
theorem flat_strs (xs : List Str) : (xs.map V.str).all flatV = true := by
  rw [List.all_map]
  exact List.all_eq_true.mpr fun _ _ => rfl
theorem inV_str (n : Str) (xs : List Str) : inV (.str n) (xs.map V.str) = decide (n ∈ xs) := by
  unfold inV
  rw [List.any_map]
  by_cases h : n ∈ xs
  · rw [decide_eq_true h]
    exact List.any_eq_true.mpr ⟨n, h, beq_self_eq_true n⟩
  · rw [decide_eq_false h]
    refine List.any_eq_false.mpr fun y m => ?_
    show ¬ (y == n) = true
    intro e
    rw [eq_of_beq e] at m
    exact h m
theorem nodup_take {α : Type} {l : List α} (hN : l.Nodup) {i : Nat} {x : α} (h : l[i]? = some x) : x ∉ l.take i := fun m => by
  obtain ⟨j, hj, e⟩ := List.getElem_of_mem m
  have q : l[j]? = some x := by
    rw [List.length_take] at hj
    rw [List.getElem_take] at e
    rw [← e]
    exact List.getElem?_eq_getElem _
  have z := nd_ix hN q h
  rw [List.length_take] at hj
  omega
/-! ### rules whose K is told, for the inside of a comprehension -/
section
variable {X : Cx} {K : PySem.W.Frag}
theorem ixK_seq (h : X.K = K := by rfl) : IxR X (rIx K) := by subst h; exact ix_seq
theorem ixK_list (h : X.K = K := by rfl) : IxR X (rIxL K) := by subst h; exact ix_list
theorem ixK_tup (h : X.K = K := by rfl) : IxR X (rIxT K) := by subst h; exact ix_tup
theorem cK_len_seq (h : X.K = K := by rfl) : CallR X (.builtin "len") (fun xs H Q => ∃ p ys, xs = [.ref p] ∧ (SqL K H p ys ∨ SqT K H p ys) ∧ Q (.int ys.length) H) := by subst h; exact call_len_seq
theorem cK_isi (h : X.K = K := by rfl) : CallR X (.builtin "isinstance") (rIsi K) := by subst h; exact call_isi
theorem cK_isiT (h : X.K = K := by rfl) : CallR X (.builtin "isinstance") (rIsiT K) := by subst h; exact call_isiT
theorem cK_list_of (h : X.K = K := by rfl) : CallR X (.type "list") (fun xs H Q => ∃ p ys, xs = [.ref p] ∧ (SqL K H p ys ∨ SqT K H p ys) ∧ ∀ l, H l = none → Q (.ref l) (upd H l (.lst ys))) := by subst h; exact call_list_of
theorem cK_tuple_of (h : X.K = K := by rfl) : CallR X (.type "tuple") (fun xs H Q => ∃ p ys, xs = [.ref p] ∧ ((SqL K H p ys ∧ ∀ l, H l = none → Q (.ref l) (upd H l (.tup ys))) ∨ (SqT K H p ys ∧ Q (.ref p) H))) := by subst h; exact call_tuple_of
end
/-! ### names -/
def isNm (s : Str) : Bool := decide (1 ≤ s.length) && decide (s.length ≤ 8) && s.cps.toList.all fun c => decide (97 ≤ c) && decide (c ≤ 122)
def letters : Str := "abcdefghijklmnopqrstuvwxyz"
theorem letters_list : letters.cps.toList = List.range' 97 26 := by decide +kernel
theorem letters_mem (c : Nat) : decide (c ∈ letters.cps.toList) = (decide (97 ≤ c) && decide (c ≤ 122)) := by
  rw [letters_list]
  by_cases h : c ∈ List.range' 97 26
  · rw [decide_eq_true h]
    have q := List.mem_range'_1.mp h
    simp
    omega
  · rw [decide_eq_false h]
    have q : ¬ (97 ≤ c ∧ c < 97 + 26) := fun z => h (List.mem_range'_1.mpr z)
    symm
    rw [← Bool.decide_and]
    exact decide_eq_false (by omega)
end Fm

/-! ## FmTree -/
set_option Elab.async false
set_option maxRecDepth 100000
set_option maxHeartbeats 4000000
/-! Any tree of lists and tuples, with the two small dicts that a law's odd things have. -/
namespace Fm
open PySem L2
def dictD (b : Bool) : PyData := .dict (if b = true then [(.str "a", .list [.int 1])] else [])
/-- the two dicts -/
def Dl (H : Hp) (a : Addr) (b : Bool) : Prop := if b = true then ∃ l, H a = some (.dK [(Sum.inr "a", .ref l)]) ∧ H l = some (.lst [.int 1]) else H a = some (.dK [])
mutual
/-- at v stands the tree d, its rows as they are -/
inductive Tp (H : Hp) : V → PyData → Prop
  | non : Tp H .non .none
  | bl (b : Bool) : Tp H (.bl b) (.bool b)
  | int (i : Int) : Tp H (.int i) (.int i)
  | str (x : Str) : Tp H (.str x) (.str x)
  | lst {a : Addr} {xs : List V} {ds : List PyData} : H a = some (.lst xs) → TpAll H xs ds → Tp H (.ref a) (.list ds)
  | tup {a : Addr} {xs : List V} {ds : List PyData} : H a = some (.tup xs) → TpAll H xs ds → Tp H (.ref a) (.tuple ds)
  | dct {a : Addr} (b : Bool) : Dl H a b → Tp H (.ref a) (dictD b)
inductive TpAll (H : Hp) : List V → List PyData → Prop
  | nil : TpAll H [] []
  | cons {v : V} {vs : List V} {d : PyData} {ds : List PyData} : Tp H v d → TpAll H vs ds → TpAll H (v :: vs) (d :: ds)
end
section
variable {K : PySem.W.Frag} {H H' : Hp}
theorem dl_same {a : Addr} {b : Bool} (e : Same H H') (h : Dl H a b) : Dl H' a b := by
  cases b with
  | true =>
    obtain ⟨l, h1, h2⟩ := (show ∃ l, H a = some (.dK [(Sum.inr "a", .ref l)]) ∧ H l = some (.lst [.int 1]) from h)
    exact (show ∃ l, H' a = some (.dK [(Sum.inr "a", .ref l)]) ∧ H' l = some (.lst [.int 1]) from ⟨l, e _ _ h1, e _ _ h2⟩)
  | false => exact e _ _ (show H a = some (.dK []) from h)
mutual
theorem Tp.same (e : Same H H') : ∀ {d : PyData} {v : V}, Tp H v d → Tp H' v d
  | .none, _, h => by cases h; exact .non
  | .bool b, _, h => by cases h; exact .bl b
  | .int i, _, h => by cases h; exact .int i
  | .str x, _, h => by cases h; exact .str x
  | .list ds, _, h => by
    cases h with
    | lst hs ha => exact .lst (e _ _ hs) (TpAll.same e ha)
  | .tuple ds, _, h => by
    cases h with
    | tup hs ha => exact .tup (e _ _ hs) (TpAll.same e ha)
  | .dict _, _, h => by
    cases h with
    | dct b hb => exact .dct b (dl_same e hb)
theorem TpAll.same (e : Same H H') : ∀ {ds : List PyData} {vs : List V}, TpAll H vs ds → TpAll H' vs ds
  | [], _, h => by cases h; exact .nil
  | d :: ds, _, h => by
    cases h with
    | cons h1 h2 => exact .cons (Tp.same e h1) (TpAll.same e h2)
end
theorem TpAll.len : ∀ {ds : List PyData} {vs : List V}, TpAll H vs ds → vs.length = ds.length
  | [], _, h => by cases h; rfl
  | d :: ds, _, h => by
    cases h with
    | cons h1 h2 => rw [List.length_cons, List.length_cons, h2.len]
theorem TpAll.at : ∀ {ds : List PyData} {vs : List V} {i : Nat} {v : V}, TpAll H vs ds → vs[i]? = some v → ∃ d, ds[i]? = some d ∧ Tp H v d
  | [], _, i, v, h, e => by cases h; simp at e
  | d :: ds, _, 0, v, h, e => by
    cases h with
    | cons h1 h2 =>
      simp at e
      subst e
      exact ⟨d, rfl, h1⟩
  | d :: ds, _, i + 1, v, h, e => by
    cases h with
    | cons h1 h2 =>
      simp at e
      obtain ⟨z, q1, q2⟩ := h2.at e
      exact ⟨z, by simpa using q1, q2⟩
theorem TpAll.to : ∀ {ds : List PyData} {vs : List V} {i : Nat} {d : PyData}, TpAll H vs ds → ds[i]? = some d → ∃ v, vs[i]? = some v ∧ Tp H v d
  | [], _, _, _, _, e => by simp at e
  | _ :: _, _, 0, _, h, e => by
    cases h with
    | cons h1 h2 =>
      cases e
      exact ⟨_, rfl, h1⟩
  | _ :: _, _, i + 1, _, h, e => by
    cases h with
    | cons h1 h2 =>
      rw [List.getElem?_cons_succ] at e
      obtain ⟨v, h3, h4⟩ := h2.to e
      exact ⟨v, by rw [List.getElem?_cons_succ]; exact h3, h4⟩
theorem TpAll.app : ∀ {ds es : List PyData} {vs us : List V}, TpAll H vs ds → TpAll H us es → TpAll H (vs ++ us) (ds ++ es)
  | [], es, _, us, h, g => by cases h; exact g
  | d :: ds, es, _, us, h, g => by
    cases h with
    | cons h1 h2 => exact .cons h1 (h2.app g)
theorem TpAll.take : ∀ {ds : List PyData} {vs : List V} (n : Nat), TpAll H vs ds → TpAll H (vs.take n) (ds.take n)
  | [], _, n, h => by cases h; simp; exact .nil
  | d :: ds, _, 0, h => .nil
  | d :: ds, _, n + 1, h => by
    cases h with
    | cons h1 h2 => exact .cons h1 (h2.take n)
theorem TpAll.drop : ∀ {ds : List PyData} {vs : List V} (n : Nat), TpAll H vs ds → TpAll H (vs.drop n) (ds.drop n)
  | [], _, n, h => by cases h; simp; exact .nil
  | d :: ds, _, 0, h => h
  | d :: ds, _, n + 1, h => by
    cases h with
    | cons h1 h2 => exact h2.drop n
theorem TpAll.rep {vs : List V} {ds : List PyData} (h : TpAll H vs ds) : ∀ c : Nat, TpAll H (List.replicate c vs).flatten (List.replicate c ds).flatten
  | 0 => .nil
  | c + 1 => by
    rw [List.replicate_succ, List.replicate_succ, List.flatten_cons, List.flatten_cons]
    exact h.app (h.rep c)
theorem TpAll.set : ∀ {ds : List PyData} {vs : List V} (i : Nat) {v : V} {d : PyData}, TpAll H vs ds → Tp H v d → TpAll H (vs.set i v) (ds.set i d)
  | [], _, i, v, d, h, _ => by cases h; exact .nil
  | _ :: _, _, 0, v, d, h, g => by
    cases h with
    | cons h1 h2 => exact .cons g h2
  | _ :: _, _, i + 1, v, d, h, g => by
    cases h with
    | cons h1 h2 => exact .cons h1 (h2.set i g)
theorem TpAll.strs : ∀ (xs : List Str), TpAll H (xs.map V.str) (xs.map PyData.str)
  | [] => .nil
  | x :: xs => .cons (.str x) (TpAll.strs xs)
theorem TpAll.ints : ∀ (xs : List Int), TpAll H (xs.map V.int) (xs.map PyData.int)
  | [] => .nil
  | x :: xs => .cons (.int x) (TpAll.ints xs)
/-! ### what a tree is: its type, its parts -/
def tyD : PyData → String
  | .none => "NoneType"
  | .bool _ => "bool"
  | .int _ => "int"
  | .str _ => "str"
  | .list _ => "list"
  | .tuple _ => "tuple"
  | .dict _ => "dict"
theorem Tp.ty {v : V} {d : PyData} (h : Tp H v d) : TyX K H v (.type (tyD d)) := by
  cases h with
  | non => exact .base .non
  | bl b => exact .base (.bl b)
  | int i => exact .base (.int i)
  | str s => exact .base (.str s)
  | lst h _ => exact .base (.lst h)
  | tup h _ => exact .base (.tup h)
  | dct b h =>
    cases b with
    | true =>
      obtain ⟨l, h1, h2⟩ := (show ∃ l, H _ = some (.dK [(Sum.inr "a", .ref l)]) ∧ H l = some (.lst [.int 1]) from h)
      exact .base (.dK h1)
    | false => exact .base (.dK (show H _ = some (.dK []) from h))
/-- isinstance(thing, T) by the type's name -/
def isD (n : String) (d : PyData) : Bool := (kitB (tyD d) n).getD false
theorem kit_d {d : PyData} {n : String} (hn : n ∈ ["str", "int", "bool", "list", "tuple", "dict"]) : kitB (tyD d) n = some (isD n d) := by
  unfold isD
  simp only [List.mem_cons, List.mem_nil_iff, or_false] at hn
  cases d <;> (rcases hn with rfl | rfl | rfl | rfl | rfl | rfl <;> (unfold tyD; rfl))
def isRowD : PyData → Bool
  | .list _ => true
  | .tuple _ => true
  | _ => false
theorem kitAny_row {d : PyData} : PySem.W.kitAny K (.type (tyD d)) [.type "list", .type "tuple"] = some (isRowD d) := by
  have go : ∀ n b1 b2, kitB n "list" = some b1 → kitB n "tuple" = some b2 → PySem.W.kitAny K (.type n) [.type "list", .type "tuple"] = some (b1 || b2) := fun n b1 b2 h1 h2 => by
    refine kitAny_cons (b := b1) (kit_ty h1) (fun z => ?_) fun z => by rw [z]; rfl
    rw [z, Bool.false_or]
    exact kitAny_cons (b := b2) (kit_ty h2) (fun y => by rw [y]; rfl) fun y => by rw [y]
  cases d with
  | none => exact go "NoneType" false false (by decide +kernel) (by decide +kernel)
  | bool _ => exact go "bool" false false (by decide +kernel) (by decide +kernel)
  | int _ => exact go "int" false false (by decide +kernel) (by decide +kernel)
  | str _ => exact go "str" false false (by decide +kernel) (by decide +kernel)
  | list _ => exact go "list" true false (by decide +kernel) (by decide +kernel)
  | tuple _ => exact go "tuple" false true (by decide +kernel) (by decide +kernel)
  | dict _ => exact go "dict" false false (by decide +kernel) (by decide +kernel)
/-- the parts of a row -/
def partsD : PyData → List PyData
  | .list ds => ds
  | .tuple ds => ds
  | _ => []
/-- a row's object -/
def Rw (H : Hp) (a : Addr) (xs : List V) : Prop := H a = some (.lst xs) ∨ H a = some (.tup xs)
theorem Rw.same {a : Addr} {xs : List V} (h : Rw H a xs) (s : Same H H') : Rw H' a xs := h.imp (s _ _) (s _ _)
theorem Tp.row {v : V} {d : PyData} (h : Tp H v d) (hr : isRowD d = true) : ∃ a xs, v = .ref a ∧ Rw H a xs ∧ TpAll H xs (partsD d) := by
  cases h with
  | lst h1 h2 => exact ⟨_, _, rfl, .inl h1, h2⟩
  | tup h1 h2 => exact ⟨_, _, rfl, .inr h1, h2⟩
  | dct b _ => cases hr
  | _ => cases hr
theorem Tp.tuple {v : V} {ds : List PyData} (h : Tp H v (.tuple ds)) : ∃ a xs, v = .ref a ∧ H a = some (.tup xs) ∧ TpAll H xs ds := by
  cases h with
  | tup h1 h2 => exact ⟨_, _, rfl, h1, h2⟩
theorem Tp.list {v : V} {ds : List PyData} (h : Tp H v (.list ds)) : ∃ a xs, v = .ref a ∧ H a = some (.lst xs) ∧ TpAll H xs ds := by
  cases h with
  | lst h1 h2 => exact ⟨_, _, rfl, h1, h2⟩
theorem Tp.strI {v : V} {s : Str} (h : Tp H v (.str s)) : v = .str s := by cases h; rfl
theorem Tp.intI {v : V} {s : Int} (h : Tp H v (.int s)) : v = .int s := by cases h; rfl
theorem Tp.blI {v : V} {s : Bool} (h : Tp H v (.bool s)) : v = .bl s := by cases h; rfl
/-! ### a place of the heap that is left open -/
def cut (F : Hp) (r : Addr) : Hp := fun a => if a = r then none else F a
section
variable {F G M : Hp} {r : Addr} {o : HO}
theorem cut_at : cut F r r = none := if_pos rfl
theorem cut_ne {a : Addr} (n : a ≠ r) : cut F r a = F a := if_neg n
theorem cut_upd (h : F r = some o) : upd (cut F r) r o = F := funext fun a => by
  by_cases q : a = r
  · rw [q, upd_same, h]
  · rw [upd_ne q]
    exact if_neg q
theorem same_cut (s : Same G F) (h : G r = none) : Same G (cut F r) := fun a u e => by
  show (if a = r then none else F a) = some u
  rw [if_neg fun q => by rw [q, h] at e; cases e]
  exact s a u e
theorem cut_sub : Same (cut F r) F := fun a u e => by
  by_cases q : a = r
  · rw [q, cut_at] at e
    cases e
  · rw [cut_ne q] at e
    exact e
end
/-! ### a list that is filled beside -/
theorem Grow.junk {F H F' H' : Hp} {D : Addr} (g : Grow F H F' H') (f : F' D = none) (h : H D = none) (o : HO) : Grow F H F' (upd H' D o) :=
  ⟨g.ff, same_put g.fh o f, fun a u e1 e2 => by
    obtain ⟨z1, z2⟩ := g.hh a u e1 e2
    have n := ne_of_none e2 h
    rw [upd_ne n]
    exact ⟨z1, z2⟩⟩
/-- D is filled with ys while F grows to F' -/
structure Acc (F H : Hp) (D : Addr) (F' H' : Hp) (ys : List V) : Prop where
  g : Grow F H F' H'
  no : F' D = none
  at_ : H' D = some (.lst ys)
  new : H D = none
theorem Acc.start {F : Hp} (s : Same F H) {D : Addr} (h : H D = none) : Acc F H D F (upd H D (.lst [])) [] := ⟨(Grow.refl s).junk (s.free h) h _, s.free h, upd_same, h⟩
theorem Acc.then {F F1 H1 F2 H2 : Hp} {D : Addr} {ys : List V} (a : Acc F H D F1 H1 ys) (g : Grow F1 H1 F2 H2) : Acc F H D F2 H2 ys := by
  obtain ⟨z1, z2⟩ := g.hh D _ a.no a.at_
  exact ⟨a.g.trans g, z1, z2, a.new⟩
theorem Acc.add {F F1 H1 : Hp} {D : Addr} {ys : List V} (a : Acc F H D F1 H1 ys) (y : List V) : Acc F H D F1 (upd H1 D (.lst y)) y := ⟨a.g.junk a.no a.new _, a.no, upd_same, a.new⟩
theorem TpAll.snoc {ds : List PyData} {vs : List V} {d : PyData} {v : V} (h : TpAll H vs ds) (q : Tp H v d) : TpAll H (vs ++ [v]) (ds ++ [d]) := h.app (.cons q .nil)
/-- what is filled becomes a part of what is spoken of -/
theorem Acc.keep {F F1 H1 : Hp} {D : Addr} {ys : List V} (a : Acc F H D F1 H1 ys) : Grow F H (upd F1 D (.lst ys)) H1 := by
  refine ⟨a.g.ff.trans (same_new _ a.no), fun b o e => ?_, fun b o e1 e2 => ?_⟩
  · by_cases q : b = D
    · rw [q, upd_same] at e
      rw [q, a.at_]
      exact e
    · rw [upd_ne q] at e
      exact a.g.fh _ _ e
  · obtain ⟨z1, z2⟩ := a.g.hh b o e1 e2
    rw [upd_ne (ne_of_none e2 a.new)]
    exact ⟨z1, z2⟩
theorem Tp.dict {v : V} {b : Bool} (h : Tp H v (dictD b)) : ∃ a, v = .ref a ∧ Dl H a b := by
  generalize e : dictD b = d at h
  cases h with
  | dct c hc =>
    have z : c = b := by
      cases b <;> cases c <;> first | rfl | (simp [dictD] at e)
    rw [z] at hc
    exact ⟨_, rfl, hc⟩
  | non => exact PyData.noConfusion e
  | bl _ => exact PyData.noConfusion e
  | int _ => exact PyData.noConfusion e
  | str _ => exact PyData.noConfusion e
  | lst _ _ => exact PyData.noConfusion e
  | tup _ _ => exact PyData.noConfusion e
/-! ### how large a tree is -/
mutual
def dep : PyData → Nat
  | .list ds => 1 + depL ds
  | .tuple ds => 1 + depL ds
  | .dict _ => 2
  | _ => 0
def depL : List PyData → Nat
  | [] => 0
  | d :: ds => max (dep d) (depL ds)
end
mutual
def siz : PyData → Nat
  | .list ds => 1 + sizL ds
  | .tuple ds => 1 + sizL ds
  | _ => 1
def sizL : List PyData → Nat
  | [] => 0
  | d :: ds => siz d + sizL ds
end
mutual
def mst : PyData → Nat
  | .list ds => mstL ds
  | .tuple ds => mstL ds
  | .str s => s.length
  | _ => 0
def mstL : List PyData → Nat
  | [] => 0
  | d :: ds => max (mst d) (mstL ds)
end
theorem dep_mem : ∀ {ds : List PyData} {d : PyData}, d ∈ ds → dep d ≤ depL ds
  | [], _, h => by cases h
  | c :: ds, d, h => by
    rcases List.mem_cons.mp h with rfl | h
    · exact Nat.le_max_left _ _
    · exact Nat.le_trans (dep_mem h) (Nat.le_max_right _ _)
theorem mst_mem : ∀ {ds : List PyData} {d : PyData}, d ∈ ds → mst d ≤ mstL ds
  | [], _, h => by cases h
  | c :: ds, d, h => by
    rcases List.mem_cons.mp h with rfl | h
    · exact Nat.le_max_left _ _
    · exact Nat.le_trans (mst_mem h) (Nat.le_max_right _ _)
theorem siz_mem : ∀ {ds : List PyData} {d : PyData}, d ∈ ds → siz d ≤ sizL ds
  | [], _, h => by cases h
  | c :: ds, d, h => by
    show siz d ≤ siz c + sizL ds
    rcases List.mem_cons.mp h with rfl | h
    · omega
    · have z := siz_mem h
      omega
theorem siz_pos : ∀ d : PyData, 1 ≤ siz d
  | .none => Nat.le_refl _
  | .bool _ => Nat.le_refl _
  | .int _ => Nat.le_refl _
  | .str _ => Nat.le_refl _
  | .dict _ => Nat.le_refl _
  | .list ds => by show 1 ≤ 1 + sizL ds; omega
  | .tuple ds => by show 1 ≤ 1 + sizL ds; omega
theorem siz_len : ∀ ds : List PyData, ds.length ≤ sizL ds
  | [] => Nat.le_refl _
  | d :: ds => by
    show ds.length + 1 ≤ siz d + sizL ds
    have z := siz_len ds
    have y := siz_pos d
    omega
/-- a tree that is not too large -/
structure Bd (n s l : Nat) (d : PyData) : Prop where
  dp : dep d ≤ n
  sz : siz d ≤ s
  ms : mst d ≤ l
theorem dep_row {d : PyData} (h : isRowD d = true) : dep d = 1 + depL (partsD d) := by
  cases d <;> first | rfl | cases h
theorem siz_row {d : PyData} (h : isRowD d = true) : siz d = 1 + sizL (partsD d) := by
  cases d <;> first | rfl | cases h
theorem mst_row {d : PyData} (h : isRowD d = true) : mst d = mstL (partsD d) := by
  cases d <;> first | rfl | cases h
theorem Bd.part {n s l : Nat} {d c : PyData} (b : Bd (n + 1) s l d) (h : isRowD d = true) (m : c ∈ partsD d) : Bd n s l c := by
  have z1 := b.dp
  have z2 := b.sz
  have z3 := b.ms
  rw [dep_row h] at z1
  rw [siz_row h] at z2
  rw [mst_row h] at z3
  have y1 := dep_mem m
  have y2 := siz_mem m
  have y3 := mst_mem m
  exact ⟨by omega, by omega, by omega⟩
theorem Bd.len {n s l : Nat} {d : PyData} (b : Bd n s l d) (h : isRowD d = true) : (partsD d).length < s := by
  have z2 := b.sz
  rw [siz_row h] at z2
  have y := siz_len (partsD d)
  omega
theorem Bd.up {n s l n' s' l' : Nat} {d : PyData} (b : Bd n s l d) (h1 : n ≤ n') (h2 : s ≤ s') (h3 : l ≤ l') : Bd n' s' l' d := ⟨Nat.le_trans b.dp h1, Nat.le_trans b.sz h2, Nat.le_trans b.ms h3⟩
theorem Bd.row0 {s l : Nat} {d : PyData} (b : Bd 0 s l d) : isRowD d = false := by
  have z := b.dp
  cases e : isRowD d with
  | false => rfl
  | true =>
    rw [dep_row e] at z
    omega
end
end Fm

/-! ## FmExc -/
set_option Elab.async false
set_option maxRecDepth 100000
set_option maxHeartbeats 4000000
/-! Own errors that hold a field: isinstance of a caught one, its field, raised by keyword, raised without arguments. -/
namespace Fm
open PySem PySem.Spec PySem.Calls PyProof.Rows
section
variable {prog : Program} {w : World} {A : Around} {E : Value → Shared → Prop} {s : Shared} {K : PySem.W.Frag} {x D : Addr} {ox : Obj} {od : Option Obj}
theorem find_data {a g : Value} {nm : Str} (hc : (PySem.W.clsIn K D).isSome = true) (h1 : PySem.W.findIn K (.ref D) nm = some (some a)) (h2 : PySem.W.specialIn K a "__get__" = some (some g)) (h3 : PySem.W.takesIn K a = some true) :
    PySem.W.findObj K D od nm = some (.bind g a) := by
  cases e : PySem.W.clsIn K D with
  | none => rw [e] at hc; cases hc
  | some cd => unfold PySem.W.findObj; simp [e, h1, h2, h3]
/-- e.__class__ of an error, with a dict or without -/
theorem err_class {Q : Option Value → Shared → Prop} (C : L2.ExcC K D) (X : K.In s.heap) (I : PySem.W.InstAt s.heap x ox D od) (h : Q (some (.ref D)) { s with toks := s.toks + 1 }) : wpAny (model prog w) A (getAttr? (.ref x) "__class__") Q E s := by
  have ff : PySem.W.findObj K D od "__class__" = some (.bind (.builtin "getset_descriptor.__get__") (.builtin "object.__class__")) := find_data (by obtain ⟨cd, e, _⟩ := PySem.W.any_some C.hd; rw [e]; rfl) C.ha C.hn C.ht
  obtain ⟨hp, g, d, t, os⟩ := s
  have l0 := I.type (M := model prog w)
  have l1 := PySem.W.looks_findIn (M := model prog w) X C.hg
  have l2 := PySem.W.looks_findIn (M := model prog w) X C.hk
  have l3 := PySem.W.looks_find (M := model prog w) X I ff
  have ln : PySem.W.Looks (model prog w) hp (isInstance (.ref x) (.type "BaseException")) true := l0.andThen (PySem.W.looks_subIn X C.hs)
  have n2 : (Value.builtin "BaseException.__getattribute__" == Value.builtin "object.__getattribute__") = false := by decide +kernel
  have n1 : (onTheHeap (Value.ref D) && (Value.builtin "BaseException.__getattribute__" == Value.builtin "object.__getattribute__")) = false := by rw [n2]; rfl
  have n0 : (false && onTheHeap (Value.builtin "BaseException.__getattribute__")) = false := rfl
  unfold getAttr?; unfold getAttrBy?; unfold getAttrBy
  refine wpAny_bind (wpAny_mkText ?_); refine wpAny_bind (wpAny_attempt (wpAny_holding ?_)); refine wpAny_bind (l0.at ?_); refine wpAny_bind (l1.at ?_)
  show wpAny (model prog w) _ (if (onTheHeap (Value.ref D) && (Value.builtin "BaseException.__getattribute__" == Value.builtin "object.__getattribute__")) = true then _ else _) _ _ _
  rw [n1, if_neg Bool.false_ne_true]; unfold getAttrByItsOwn; unfold hookBefore
  refine wpAny_bind ?_; rw [if_pos (show onTheHeap (Value.ref D) = true from rfl)]; refine l2.at ?_
  refine wpAny_bind (wpAny_attempt (wpAny_holding ?_)); unfold callGetattribute; rw [n0, if_neg Bool.false_ne_true]; unfold boundAndCalled
  rw [PySem.F.excAttr_ValueError.ga.bind (.ref x)]; refine wpAny_bind (wpAny_pure ?_)
  show wpAny (model prog w) _ (call (.builtin "BaseException.__getattribute__") [.ref x, .str "__class__" t]) _ _ _
  refine wpAny_call (codeAny_call_builtin PySem.F.excAttr_ValueError.ga.plain PySem.F.entry_bexc_ga ?_)
  refine @PySem.W.check_slot (model prog w) _ _ ⟨hp, g, d, t + 1, os⟩ "BaseException.__getattribute__" "BaseException" "__getattribute__" (.ref x) [.str "__class__" t] [] _ (by decide +kernel) (by decide +kernel) ln (PySem.F.args_bexc_ga (.ref x) (.str "__class__" t)) ?_
  unfold Builtin.«object.__getattribute__»
  refine wpAny_bind (wpAny_of_eq (a := ((Value.ref x : Value), [Value.str "__class__" t])) (by first | rfl | (simp only [slotArgs]; rfl)) ?_)
  refine wpAny_bind (wpAny_pure ?_); refine wpAny_bind (l0.at ?_); refine wpAny_bind (l3.at ?_)
  show wpAny (model prog w) _ (holding [Value.builtin "object.__class__"] (call (.builtin "getset_descriptor.__get__") [.builtin "object.__class__", .ref x, .ref D]) >>= ret) _ _ _
  refine wpAny_bind (wpAny_holding (wpAny_call (PySem.W.class_get (s := ⟨hp, g, d, t + 1, os⟩) (ox := ox) (od := od) X I C.hm ?_)))
  refine wpAny_pure ?_
  show wpAny (model prog w) _ (handedOut (.ref D)) _ _ _
  rw [PySem.W.handedOut_of (v := .ref D) rfl]
  first | exact wpAny_pure (wpAny_pure h) | exact wpAny_pure h | exact wpAny_pure (wpAny_bind (wpAny_pure (wpAny_pure h)))
theorem err_kit (C : L2.ExcC K D) : PySem.W.KitX K (.ref x) (.ref D) (fun h => ∃ od, PySem.W.InstAt h x ox D od) where
  ty := fun _ _ _ ⟨_, I⟩ => I.type
  it := fun _ _ X _ => by
    obtain ⟨cd, e, _⟩ := PySem.W.any_some C.hd
    unfold PySem.W.clsIn at e
    split at e
    · rename_i o1 o2 o3 o4 ho
      intro A' Q' E' s' k q
      unfold isType; unfold loadHead
      exact wpAny_bind (wpAny_loadPart (k _ _ (X _ _ ho)) (wpAny_pure q))
    · cases e
  ne := fun h tp dd its n sl X htp => by
    obtain ⟨cd, e, _⟩ := PySem.W.any_some C.hd
    refine Bool.eq_false_iff.mpr fun q => ?_
    cases Value.ref.inj (beq_iff_eq.mp q)
    unfold PySem.W.clsIn at e
    split at e
    · rename_i o1 o2 o3 o4 ho
      cases (X _ _ ho).symm.trans htp
    · cases e
  ca := fun X ⟨_, I⟩ k => err_class C X I k
end
section
open L2
variable {X : Cx}
theorem inst_err {H : Hp} {s : Shared} {a D : Addr} {oe : Obj} {d : Option Addr} (hget : s.heap.get? a = some oe) (hok : HOk X.prog X.w H s.heap) (hz : Zc (.ref D) d oe) (hf : ∃ vs, oe.data = .fields vs) (hd : ∀ dd, d = some dd → ∃ fs, H dd = some (.xd fs)) :
    ∃ od, PySem.W.InstAt s.heap a oe D od := by
  obtain ⟨vs, hv⟩ := hf
  have nc : PySem.W.notCls oe = true := by unfold PySem.W.notCls; rw [hv] <;> rfl
  cases d with
  | none => exact ⟨none, hget, hz.1, nc, by rw [hz.2]; trivial⟩
  | some dd =>
    obtain ⟨fs, e⟩ := hd dd rfl
    have z : ObjOk X.prog X.w H s.heap dd (.xd fs) := hok dd _ e
    obtain ⟨mA, hns, _⟩ := z
    obtain ⟨od, ho, _⟩ := lookIn_ns hns
    exact ⟨some od, hget, hz.1, nc, by rw [hz.2]; exact ho⟩
/-- isinstance(e, c), e the error that the suite holds: its class and its dict as they come -/
def rIsF (K : PySem.W.Frag) (a : Addr) (cls : Value) (d : Option Addr) : List V → Hp → VK → Prop := fun xs H Q => ∃ (D : Addr) (c : V) (u : Value) (b : Bool), xs = [.ref a, c] ∧ cls = .ref D ∧ ExcC K D ∧ (∀ dd, d = some dd → ∃ fs, H dd = some (.xd fs)) ∧ ClsV c u ∧ PySem.W.kitOne K (.ref D) u = some b ∧ Q (.bl b) H
theorem call_isF {a : Addr} {cls : Value} {d : Option Addr} {oe : Obj} {pn : List (Addr × Obj)} (hz : Zc cls d oe) (hf : ∃ vs, oe.data = .fields vs) : CallR (X.suite a ((a, oe) :: pn)) (.builtin "isinstance") (rIsF X.K a cls d) := by
  intro pins s σ H xs us Q I r h
  obtain ⟨D, c, u, b, rfl, rfl, C, hd, hc, e, q⟩ := h
  obtain ⟨u1, u2, rfl, r1, r2⟩ := vals2 r
  have e2 := hc.eq r2
  subst e2
  cases (show u1 = Value.ref a from r1)
  obtain ⟨hg, _⟩ := I.pin (a, oe) (List.mem_append_left _ List.mem_cons_self)
  exact PySem.W.kia_one (err_kit C) I.kIn (inst_err hg I.hok hz hf hd) e (fun z => nomatch z) fun tk => ⟨.bl b, H, I.tok tk, rfl, q⟩
/-- e.f, e the error that the suite holds -/
def tXg (K : PySem.W.Frag) (a : Addr) (cls : Value) (d : Option Addr) (f : Str) (te : TE) : TE := fun σ H Q => te σ H fun x H1 => x = .ref a ∧ ∃ (C dd : Addr) (fs : List (Str × V)) (v : V), cls = .ref C ∧ XfC K C ∧ PySem.W.findIn K (.ref C) f = some none ∧ d = some dd ∧ H1 dd = some (.xd fs) ∧ fs.lookup f = some v ∧ Q v H1
theorem pe_xg {a : Addr} {oe : Obj} {cls : Value} {d : Option Addr} {pn : List (Addr × Obj)} {e : Expr} {te : TE} {pos : Pos} {n : Str} (hz : Zc cls d oe) (hf : ∃ vs, oe.data = .fields vs) (he : PE (X.suite a ((a, oe) :: pn)) e te)
    (hb : attributeBase e n X.env (eval e X.env) = eval e X.env := by rfl) : PE (X.suite a ((a, oe) :: pn)) (.Attribute e n pos) (tXg X.K a cls d n te) := by
  refine ⟨fun pins s σ H Q I h => attr_of hb (thn (he.run pins s σ H _ I h) fun u s1 hh => ?_)⟩
  obtain ⟨x, H1, I1, rx, rfl, C, dd, fs, v, rfl, T, hno, rfl, ea, l, q⟩ := hh
  cases (show u = Value.ref a from rx)
  obtain ⟨ha, _⟩ := I1.pin (a, oe) (List.mem_append_left _ List.mem_cons_self)
  obtain ⟨vs, hd⟩ := hf
  have z : ObjOk X.prog X.w H1 s1.heap dd (.xd fs) := I1.hok dd _ ea
  obtain ⟨mA, hns, hr⟩ := z
  obtain ⟨od, ho, hl⟩ := lookIn_ns hns
  obtain ⟨u, hu, ru⟩ := RelO.some_of (v := v) (o := mA n) (by rw [← l]; exact hr n)
  exact HandSPX.exc_get I1.kIn ⟨ha, hz.1, by unfold PySem.W.notCls; rw [hd] <;> rfl, by rw [hz.2]; exact ho⟩ T.ga T.gg T.exC (PySem.W.findObj_own T.hdC hno rfl (by rw [hl, hu])) (handed_of ru) ⟨v, H1, I1.tok _, ru, q⟩
theorem pmk_own0 {C : Addr} {bmB : List Value} {B newId initId : String} {x : Str} {p pos : Pos} (F : ExcBaseFacts B newId initId bmB) (q : PySem.W.excIn X.K C bmB newId = true) (gC : X.mg x = some (.ref C))
    (kC : PySem.W.keepIn X.K (.ref C) = true) (r : Raises X (.ref C)) (hg : Gl X x := by rfl) (hdb : (x == ("__debug__" : Str)) = false := by decide) : PMk X (.Call (.Name x p) [] [] pos) (fun _ H Q => Q (.ref C) none H) := by
  intro pins s σ H Q I h
  refine wpAny_Call_Name_kw (ld_glob I hg gC ?_ hdb)
  refine PySem.W.callWith_K0 I.kIn kC ?_
  obtain ⟨bm, N, nm, qn, bs, hdct, sn, sub, ab, col, dd, k0, k1, k2, k3, k5, mN, hC, hN, hni, T⟩ := exc_obj I.kIn q
  exact wpAny_call_exc_subT F T hC hN hni (fun h' e hm => mk_of I hm r h (I.hok.gone hm.new)) (Nat.zero_le _)
end
section
open PySem.HandSPX
variable {M : Model} {A : Around} {E : Value → Shared → Prop} {h : Heap} {g : Array GenState} {d : Drawn} {t : Nat} {os : OsState}
variable {nm q : Str} {C N : Addr} {bs bm bmB : List Value} {hdct : Bool} {sn : List Str} {sub : List Value} {ab : Bool} {col : Option Bool} {dd : Option Addr} {k0 k1 k2 k3 k5 : Option Value} {B newId initId : String}
theorem check_newK (F : ExcBaseFacts B newId initId bmB) (hT : ∀ X : String, bm.contains (.type X) = bmB.contains (.type X)) {kw : List (Str × Value)} {Q : Unit → Shared → Prop}
    (hC : h.get? C = some (excClassObj nm q C N bs bm hdct sn sub ab col dd k0 k1 k2 k3 k5 newId)) (hq : Q () ⟨h, g, d, t, os⟩) : wpAny M A (checkBuiltinCall newId ⟨[.ref C], kw⟩) Q E ⟨h, g, d, t, os⟩ := by
  have c1 : (Value.ref C :: bm).contains (.type B) = true := by rw [List.contains_cons, hT, F.hasB, Bool.or_true]
  have c2 := F.noStar
  simp only [checkBuiltinCall, F.newKind, F.newSplit, F.newRow]
  repeat (first
    | refine wpAny_loadPart_at hC ?_
    | (refine wpAny_isSubtype_exc hC ?_; rw [c1])
    | refine wpAny_staticBase_exc hC ?_
    | refine wpAny_madeBy_exc hC ?_
    | simp only [bne_self_eq_false, Bool.false_eq_true, if_false]
    | wp_step)
  exact hq
end
section
open PySem.HandSPX
variable {prog : Program} {w : World} {A : Around} {E : Value → Shared → Prop} {R : Result → Shared → Prop} {h : Heap} {g : Array GenState} {d : Drawn} {t : Nat} {os : OsState}
variable {nm q : Str} {C N : Addr} {bs bm bmB : List Value} {hdct : Bool} {sn : List Str} {sub : List Value} {ab : Bool} {col : Option Bool} {dd : Option Addr} {k0 k1 k2 k3 k5 : Option Value} {B newId initId : String}
theorem new_ownK (F : ExcBaseFacts B newId initId bmB) (hT : ∀ X : String, bm.contains (.type X) = bmB.contains (.type X)) {kw : List (Str × Value)}
    (hC : h.get? C = some (excClassObj nm q C N bs bm hdct sn sub ab col dd k0 k1 k2 k3 k5 newId))
    (hq : R (.ok (.ret (.ref (h.objs.size + 1)))) ⟨(h.push (PySem.W.kdv_tup [])).push (excO C h.objs.size), g, d, t, os⟩) : codeAny (model prog w) A (.builtin newId ⟨[.ref C], kw⟩) R ⟨h, g, d, t, os⟩ := by
  have hends := F.ends
  have c1 : (Value.ref C :: bm).contains (.type B) = true := by rw [List.contains_cons, hT, F.hasB, Bool.or_true]
  have c2 : (Value.ref C :: bm).contains (.type "AttributeError") = false := by rw [List.contains_cons, hT, F.noAttr]; rfl
  have c3 : (Value.ref C :: bm).contains (.type "NameError") = false := by rw [List.contains_cons, hT, F.noName]; rfl
  refine codeAny_builtinAt F.entry ?_
  unfold Builtin.«BaseException.__new__»
  refine PySem.wpAt_bind ?_
  show PySem.wpAt _ _ _ (stack >>= _) _ _ _
  refine PySem.wpAt_bind (PySem.wpAt_stack fun p below => PySem.wpAt_of_wpAny ?_)
  wp_walk
  refine PySem.wpAt_of_wpAny ?_
  rw [F.owner]
  repeat (first
    | with_reducible refine wpAny_madeHere_exc F.canon hC ?_
    | with_reducible refine wpAny_loadPart_at hC ?_
    | (with_reducible refine wpAny_isSubtype_exc hC ?_; first | rw [c1] | rw [c2] | rw [c3])
    | wp_step)
  show R _ _
  rw [Heap.size_push]
  exact hq
theorem type_callK (F : ExcBaseFacts B newId initId bmB) (hT : ∀ X : String, bm.contains (.type X) = bmB.contains (.type X)) {kw : List (Str × Value)} {fI : Addr} {Q : Fin → Shared → Prop}
    (hC : h.get? C = some (excClassObj nm q C N bs bm hdct sn sub ab col dd k0 k1 k2 k3 k5 newId))
    (hi : PySem.W.Looks (model prog w) h (typeLookup (.ref C) "__init__") (some (.ref fI))) (hb : ∀ self, PySem.W.Looks (model prog w) h (bindSpecial (.ref fI) self) (.ref fI, [self]))
    (hq : codeAny (model prog w) A (.call (.ref fI) ⟨[.ref (h.objs.size + 1)], kw⟩)
      (fun r s' => match r with | .ok (.ret v) => v = .none ∧ Q (.done (.ret (.ref (h.objs.size + 1)))) s' | .ok _ => False | .error e => E e s') ⟨(h.push (PySem.W.kdv_tup [])).push (excO C h.objs.size), g, d, t, os⟩) :
    wpAny (model prog w) A (Builtin.«type.__call__» ⟨[.ref C], kw⟩) Q E ⟨h, g, d, t, os⟩ := by
  repeat (first
    | with_reducible refine wpAny_loadPart_at hC ?_
    | with_reducible refine wpAny_madeBy_exc hC ?_
    | wp_step)
  refine codeAny_call_builtin_code (Code.quiet_builtin _ F.quiet) (check_newK F hT hC ?_)
  refine new_ownK F hT hC ?_
  show wpAny _ _ _ _ _ _
  have k : ∀ b o, h.get? b = some o → ((h.push (PySem.W.kdv_tup [])).push (excO C h.objs.size)).get? b = some o := fun b o e => Heap.get?_push_of_some _ (Heap.get?_push_of_some _ e)
  have e1 := k _ _ hC
  have e2 : ((h.push (PySem.W.kdv_tup [])).push (excO C h.objs.size)).get? (h.objs.size + 1) = some (excO C h.objs.size) := by heap_get
  have e3 : (Value.ref C :: bm).contains (.ref C) = true := by simp
  have i1 := hi.keeps k
  have b1 := (hb (.ref (h.objs.size + 1))).keeps k
  unfold isInstance
  repeat (first
    | with_reducible refine wpAny_loadPart_at e2 ?_
    | (with_reducible refine wpAny_isSubtype_exc e1 ?_; rw [e3])
    | wp_step)
  show wpAny _ _ (typeLookup (.ref C) _) _ _ _
  refine i1.at ?_
  refine wpAny_holding (wpAny_bind (b1.at ?_))
  refine wpAny_bind (wpAny_call (codeAny_mono hq fun r s' z => ?_))
  rcases r with e | (v | _ | _ | _) <;> first | exact z | exact z.elim | skip
  obtain ⟨rfl, z⟩ := z
  first
    | exact wpAny_pure (wpAny_pure z)
    | (wp_walk; exact z)
theorem call_ownK (F : ExcBaseFacts B newId initId bmB) (hT : ∀ X : String, bm.contains (.type X) = bmB.contains (.type X)) {kw : List (Str × Value)} {fI : Addr}
    (hC : h.get? C = some (excClassObj nm q C N bs bm hdct sn sub ab col dd k0 k1 k2 k3 k5 newId))
    (hi : PySem.W.Looks (model prog w) h (typeLookup (.ref C) "__init__") (some (.ref fI))) (hb : ∀ self, PySem.W.Looks (model prog w) h (bindSpecial (.ref fI) self) (.ref fI, [self]))
    (hq : codeAny (model prog w) (A.under (.builtin "type.__call__" ⟨[.ref C], kw⟩)) (.call (.ref fI) ⟨[.ref (h.objs.size + 1)], kw⟩) (PySem.W.InitBack (h.objs.size + 1) R) ⟨(h.push (PySem.W.kdv_tup [])).push (excO C h.objs.size), g, d, t, os⟩) :
    codeAny (model prog w) A (.call (.ref C) ⟨[], kw⟩) R ⟨h, g, d, t, os⟩ := by
  have f1 := tc_lookup
  have f2 := tc_bind (.ref C)
  have hTy : (⟨h, g, d, t, os⟩ : Shared).TypeIs (.ref C) "type" := ⟨_, hC, rfl⟩
  refine codeAny_of_tree ?_
  show wpAny _ _ (callAny (.ref C) _) _ _ _
  repeat (any_goals (first | assumption | with_reducible refine wpAny_loadPart_at hC ?_ | wp_step))
  refine ⟨rfl, ?_⟩
  refine codeAny_call_builtin_at (Code.quiet_builtin _ (by decide +kernel)) entry_typeCall (wpAny_check_type_call_sub hC (type_callK F hT hC hi hb ?_))
  refine codeAny_mono hq fun r s' z => ?_
  rcases r with e | (v | _ | _ | _) <;> exact z
end
section
open L2
variable {X : Cx} {kws : List Keyword} {tk : TA} {p pos : Pos} {g : List Value → List Value → List Value} {gV : List V → List V → List V} {ks : List Str}
/-- C(k = v, ..) of an own error class: laid bare, then its __init__ -/
def tMkK (C : Addr) (m : Nat) (sp : Sp) (gV : List V → List V → List V) (tk : TA) : L2.St → Hp → XK → Prop := fun σ H Q => tk σ H fun zs H1 => zs.length = m ∧ ∀ a, H1 a = none → sp (gV [.ref a] zs) (upd H1 a (exo a C none))
  (fun v H2 => v = .non ∧ ∃ (d : Addr) (fs : List (Str × V)), H2 a = some (exo a C (some d)) ∧ H2 d = some (exd d fs) ∧ H1 d = none ∧ Q (.ref C) (some d) (upd (del H2 a) d (.xd fs))) (fun _ _ _ => False)
theorem pmk_oexK {CX : CXT} {x : Str} {C fI : Addr} {k : Nat} {fd : FuncData} {ps : List Str} {sp : Sp} (T : OexC X.K C) (iC : PySem.W.findIn X.K (.ref C) "__init__" = some (some (.ref fI))) (tI : PySem.W.typeIn X.K (.ref fI) = some (.type "function"))
    (F1 : FnOk X.prog X.w X.K X.mg X.base CX k fI fd ps sp) (hr : Room (k + 1) X.A) (hb : KBn X.K fd ps 1 ks g gV) (hx : Passes CX X (fun _ _ _ => False)) (hm : X.mg x = some (.ref C)) (hkw : PK X kws tk) (hg : Gl X x := by rfl)
    (hall : (backToKw pos (keywordEach kws X.env)).all (·.1.isSome) = true := by rfl) (hks : (backToKw pos (keywordEach kws X.env)).filterMap (·.1) = ks := by rfl) (hdb : (x == ("__debug__" : Str)) = false := by decide)
    (hpl : ((backTo pos (starEach [] X.env)).any (·.1) || (backToKw pos (keywordEach kws X.env)).any (·.1.isNone)) = false := by rfl) :
    PMk X (.Call (.Name x p) [] kws pos) (tMkK C ks.length sp gV tk) := by
  intro pins s σ H Q I h
  obtain ⟨nm, q, N, bs, bm, sn, sub, ab, col, dd, k0, k1, k2, k3, k5, hC, hbm⟩ := T.cls
  refine wpAny_Call_Name_kw (ld_glob I hg hm ?_ hdb)
  refine PySem.W.callWith_KW0 (h₀ := X.base) I.ok.mod.kin T.kC hall ?_ hpl
  refine thn (hkw.run pos pins s σ H _ I h) fun ws s1 ⟨zs, H1, I1, rz, q1⟩ => ⟨I1.kIn, ?_⟩
  rw [hks]
  show wpAny _ _ (call (.ref C) [] (ks.zip ws)) _ _ _
  obtain ⟨hp, gg, dr, tok, os⟩ := s1
  have z1 : hp.objs.size ≤ hp.objs.size + 1 := Nat.le_succ _
  have hq := q1.2 (hp.objs.size + 1) (I1.hok.fresh z1)
  have kk : ∀ b o, hp.get? b = some o → ((hp.push (PySem.W.kdv_tup [])).push (PySem.HandSPX.excO C hp.objs.size)).get? b = some o := fun b o e => Heap.get?_push_of_some _ (Heap.get?_push_of_some _ e)
  have hget : ((hp.push (PySem.W.kdv_tup [])).push (PySem.HandSPX.excO C hp.objs.size)).get? (hp.objs.size + 1) = some (PySem.HandSPX.excO C hp.objs.size) := by heap_get
  have I2 : Inv X pins σ (upd H1 (hp.objs.size + 1) (exo (hp.objs.size + 1) C none)) ⟨(hp.push (PySem.W.kdv_tup [])).push (PySem.HandSPX.excO C hp.objs.size), gg, dr, tok, os⟩ :=
    I1.laid (t' := tok) (a := hp.objs.size + 1) (o := exo (hp.objs.size + 1) C none) (h' := (hp.push (PySem.W.kdv_tup [])).push (PySem.HandSPX.excO C hp.objs.size)) kk z1 (exo_ok hget)
  have r2 := hb.rel (vs := [V.ref (hp.objs.size + 1)]) (us := [Value.ref (hp.objs.size + 1)]) (.cons rfl .nil) rz
  refine wpAny_call (call_ownK F.excBase_ValueError (fun Y => PySem.HandSPX.refsVE_contains Y bm hbm) (I1.kIn _ _ hC) (PySem.W.looks_findIn I1.kIn iC) (fun self => PySem.W.bind_fn I1.kIn self tI)
    (codeAny_mono (F1.run _ X.stack _ _ ⟨[Value.ref (hp.objs.size + 1)], ks.zip ws⟩ (g [Value.ref (hp.objs.size + 1)] ws) _ _ (fun _ _ _ => False) (hr.make C [] (ks.zip ws)) (I2.env0.make C [] (ks.zip ws))
      (hb.to _ [Value.ref (hp.objs.size + 1)] ws I2.kIn rfl (rz.length.symm.trans q1.1)) r2 hq) fun r s' hq' => ?_))
  cases r with
  | error er => exact hx pins σ _ _ er s' I2 hq'
  | ok fl =>
    cases fl with
    | ret u =>
      obtain ⟨v, H2, os2, bare2, un2, hok2, rv, ev, d, fs, ea, ed, hd1, q2⟩ := hq'
      subst ev
      obtain ⟨h2, g2, d2, t2, os'⟩ := s'
      exact ⟨rv, mk_end (raises_own T.exC T.tyC) I1 z1 kk un2 hok2 os2 bare2 ea ed hd1 q2⟩
    | next => exact False.elim hq'
    | brk => exact False.elim hq'
    | cont => exact False.elim hq'
end
end Fm

/-! ## FmRaise -/
set_option Elab.async false
set_option maxRecDepth 100000
set_option maxHeartbeats 4000000
/-! Raising own errors: by position, by keyword, without arguments; a def that raises, called within a try. -/
namespace Fm
open PySem PySem.Spec PyProof.Rows L2
/-- __init__(self, v) of an own error: self.f = v -/
def spIn (K : PySem.W.Frag) (f : Str) : Sp := fun vs H Q _ => ∃ (a C : Addr) (v : V), vs = [.ref a, v] ∧ OexC K C ∧ H a = some (exo a C none) ∧ PySem.W.findIn K (.ref C) f = some none ∧ ∀ dx, H dx = none → dx ≠ a → Q .non (upd (upd H dx (exd dx [(f, v)])) a (exo a C (some dx)))
structure Xf (P : Program) (w : World) (K : PySem.W.Frag) (mg : Str → Option Value) (base : Heap) (x : Str) (C : Addr) (f : Str) : Prop where
  ex : ∃ (fI : Addr) (fd : FuncData), OexC K C ∧ PySem.W.findIn K (.ref C) "__init__" = some (some (.ref fI)) ∧ PySem.W.typeIn K (.ref fI) = some (.type "function") ∧ FnOk P w K mg base CX0 1 fI fd ["self", f] (spIn K f) ∧ mg x = some (.ref C) ∧ Binds K fd ["self", f] [] ∧
    KBn K fd ["self", f] 1 [f] (fun us ws => us ++ ws) (fun vs zs => vs ++ zs) ∧ PySem.W.findIn K (.ref C) f = some none
structure X0 (K : PySem.W.Frag) (mg : Str → Option Value) (x : Str) (C : Addr) : Prop where
  ex : ∃ (bmB : List Value) (B newId initId : String), ExcBaseFacts B newId initId bmB ∧ PySem.W.excIn K C bmB newId = true ∧ mg x = some (.ref C) ∧ PySem.W.keepIn K (.ref C) = true ∧ PySem.W.subIn K (.ref C) (.type "BaseException") = some true ∧ PySem.W.typeIn K (.ref C) = some (.type "type")
def tRE (C : Addr) (f : Str) (i : Nat) (W : WX) : TS := fun _ σ H => ∃ v, σ[i]? = some (some v) ∧ ∀ d, H d = none → W (.ref C) (some d) σ (upd H d (.xd [(f, v)]))
theorem del_upd {H : Hp} {a d : Addr} {o1 o2 o3 o4 : HO} (ha : H a = none) (ne : d ≠ a) : upd (del (upd (upd (upd H a o1) d o2) a o3) a) d o4 = upd H d o4 := funext fun b => by
  by_cases q : b = d
  · rw [q, upd_same, upd_same]
  · rw [upd_ne q, upd_ne q]
    by_cases z : b = a
    · rw [z, del_same, ha]
    · rw [del_ne z, upd_ne z, upd_ne q, upd_ne z]
section
variable {X : Cx} {W : WX} {x f : Str} {C : Addr} {i : Nat} {e : Expr} {p pos pos' kpos : Pos}
theorem init_read {K : PySem.W.Frag} {H : Hp} {a : Addr} {v : V} {Q : XK} {E : XK} (T : OexC K C) (hno : PySem.W.findIn K (.ref C) f = some none) (ha : H a = none) (k : ∀ d, H d = none → Q (.ref C) (some d) (upd H d (.xd [(f, v)]))) :
    spIn K f [.ref a, v] (upd H a (exo a C none)) (fun z H2 => z = .non ∧ ∃ (d : Addr) (fs : List (Str × V)), H2 a = some (exo a C (some d)) ∧ H2 d = some (exd d fs) ∧ H d = none ∧ Q (.ref C) (some d) (upd (del H2 a) d (.xd fs))) E :=
  ⟨a, C, v, rfl, T, upd_same, hno, fun dx hdx ne => ⟨rfl, dx, [(f, v)], upd_same, by rw [upd_ne ne, upd_same], by rw [upd_ne ne] at hdx; exact hdx, by rw [del_upd ha ne]; exact k dx (by rw [upd_ne ne] at hdx; exact hdx)⟩⟩
theorem ps_rE (B : Xf X.prog X.w X.K X.mg X.base x C f) (hr : Room 2 X.A) (tk : Takes X W) (he : PE X e (tVar i)) (hc : X.calm = true := by rfl) (hg : Gl X x := by rfl) (hdb : (x == ("__debug__" : Str)) = false := by decide)
    (hst : starEach [e] X.env = (false, eval e X.env) :: starEach [] X.env := by rfl) (hpl : (backTo pos (starEach [] X.env)).any (·.1) = false := by rfl) : PS X (.Raise (some (.Call (.Name x p) [e] [] pos)) none pos') (tRE C f i W) := by
  obtain ⟨fI, fd, T, iC, tI, F1, hm, hb, _, hno⟩ := B.ex
  refine ⟨fun pins s σ H D I h => ?_⟩
  obtain ⟨v, hv, k⟩ := h
  exact (ps_raise hc tk (pmk_oex T iC tI F1 hr hb .nil pass0 hg hm (pa_cons he pa_nil (hs := hst)) hdb hst hpl)).run pins s σ H D I ⟨v, hv, (by show 1 ≤ 1000; decide), fun a ha => init_read (v := v) (Q := fun cls d H' => W cls d σ H') T hno ha k⟩
theorem ps_rK (B : Xf X.prog X.w X.K X.mg X.base x C f) (hr : Room 2 X.A) (tk : Takes X W) (he : PE X e (tVar i)) (hc : X.calm = true := by rfl) (hg : Gl X x := by rfl) (hdb : (x == ("__debug__" : Str)) = false := by decide)
    (hall : (backToKw pos (keywordEach [⟨some f, e, kpos⟩] X.env)).all (·.1.isSome) = true := by rfl) (hks : (backToKw pos (keywordEach [⟨some f, e, kpos⟩] X.env)).filterMap (·.1) = [f] := by rfl)
    (hpl : ((backTo pos (starEach [] X.env)).any (·.1) || (backToKw pos (keywordEach [⟨some f, e, kpos⟩] X.env)).any (·.1.isNone)) = false := by rfl) : PS X (.Raise (some (.Call (.Name x p) [] [⟨some f, e, kpos⟩] pos)) none pos') (tRE C f i W) := by
  obtain ⟨fI, fd, T, iC, tI, F1, hm, _, hb, hno⟩ := B.ex
  refine ⟨fun pins s σ H D I h => ?_⟩
  obtain ⟨v, hv, k⟩ := h
  exact (ps_raise hc tk (pmk_oexK T iC tI F1 hr hb pass0 hm (pk_cons he pk_nil) hg hall hks hdb hpl)).run pins s σ H D I ⟨v, hv, rfl, fun a ha => init_read (v := v) (Q := fun cls d H' => W cls d σ H') T hno ha k⟩
theorem ps_r0 (B : X0 X.K X.mg x C) (tk : Takes X W) (hc : X.calm = true := by rfl) (hg : Gl X x := by rfl) (hdb : (x == ("__debug__" : Str)) = false := by decide) : PS X (.Raise (some (.Call (.Name x p) [] [] pos)) none pos') (fun _ σ H => W (.ref C) none σ H) := by
  obtain ⟨bmB, N, newId, initId, F, q, gC, kC, e1, e2⟩ := B.ex
  exact ps_raise hc tk (pmk_own0 F q gC kC (raises_own e1 e2) hg hdb)
/-- a def that may raise -/
structure DfX (P : Program) (w : World) (K : PySem.W.Frag) (mg : Str → Option Value) (base : Heap) (x : Str) (k : Nat) (ps : List Str) (sp : Sp) : Prop where
  ex : ∃ (f : Addr) (fd : FuncData), FnOk P w K mg base (L2.CX P w) k f fd ps sp ∧ mg x = some (.ref f) ∧ PySem.W.keepIn K (.ref f) = true ∧ Binds K fd ps []
theorem pe_dX {pn : List (Addr × Obj)} {xe : Value → Shared → Prop} {es : List Expr} {t : TA} {k : Nat} {ps : List Str} {sp : Sp} (D : DfX X.prog X.w X.K X.mg X.base x k ps sp) (hr : Room k X.A) (tk : Takes (X.tr pn xe) W) (ha : PA (X.tr pn xe) (e :: es) t) (hg : Gl X x := by rfl) (hdb : (x == ("__debug__" : Str)) = false := by decide)
    (he : starEach (e :: es) X.env = (false, eval e X.env) :: starEach es X.env := by rfl) (hpl : (backTo pos (starEach es X.env)).any (·.1) = false := by rfl) : PE (X.tr pn xe) (.Call (.Name x p) (e :: es) [] pos) (tCallS sp (WE W) t) := by
  obtain ⟨f, fd, F, hm, hk, hb⟩ := D.ex
  exact pe_callS F hr hg hm hk hb (fun σ => passAt tk σ) ha hdb he hpl
end
section
variable {X : Cx} {K : PySem.W.Frag}
/-! ### readings that name the part alone -/
theorem peK {e : Expr} {T : String} {r : V → List V → Hp → VK → Prop} {to : TE} {t : TA} (h : PE X e (tBM X.K T r to t)) (hK : X.K = K := by rfl) : PE X e (tBM K T r to t) := by
  subst hK
  exact h
theorem opK_in (hK : X.K = K := by rfl) : OpR X (compareOp .In) (rIn K false) := by
  subst hK
  exact op_in_seq
theorem call_isK {a : Addr} {cls : Value} {d : Option Addr} {oe : Obj} {pn : List (Addr × Obj)} (hz : Zc cls d oe) (hf : ∃ vs, oe.data = .fields vs) (hK : X.K = K := by rfl) : CallR (X.suite a ((a, oe) :: pn)) (.builtin "isinstance") (rIsF K a cls d) := by
  subst hK
  exact call_isF hz hf
theorem pe_xk {a : Addr} {oe : Obj} {cls : Value} {d : Option Addr} {pn : List (Addr × Obj)} {e : Expr} {te : TE} {pos : Pos} {n : Str} (hz : Zc cls d oe) (hf : ∃ vs, oe.data = .fields vs) (he : PE (X.suite a ((a, oe) :: pn)) e te)
    (hb : attributeBase e n X.env (eval e X.env) = eval e X.env := by rfl) (hK : X.K = K := by rfl) : PE (X.suite a ((a, oe) :: pn)) (.Attribute e n pos) (tXg K a cls d n te) := by
  subst hK
  exact pe_xg hz hf he hb
end
end Fm

/-! ## FmCall -/
set_option Elab.async false
set_option maxRecDepth 100000
set_option maxHeartbeats 4000000
/-! Calls of what may raise: a def, a method, a class by its __init__; the way out is told of the slots of the caller. -/
namespace Fm
open PySem PySem.Spec PyProof.Rows L2
structure DmX (P : Program) (w : World) (K : PySem.W.Frag) (mg : Str → Option Value) (base : Heap) (C : Addr) (m : Str) (k : Nat) (ps : List Str) (sp : Sp) : Prop where
  ex : ∃ (f : Addr) (fd : FuncData), FnOk P w K mg base (L2.CX P w) k f fd ps sp ∧ Meth K C m f ∧ Binds K fd ps []
structure DcX (P : Program) (w : World) (K : PySem.W.Frag) (mg : Str → Option Value) (base : Heap) (x : Str) (C : Addr) (k : Nat) (ps : List Str) (sp : Sp) : Prop where
  ex : ∃ (f : Addr) (fd : FuncData), FnOk P w K mg base (L2.CX P w) k f fd ps sp ∧ mg x = some (.ref C) ∧ Mk K C f ∧ Binds K fd ps []
def tMethX (C : Addr) (m : Str) (sp : Sp) (W : WX) (ta : TE) (t : TA) : TE := fun σ H Q => ta σ H fun x H1 => ∃ a dx fs, x = .ref a ∧ H1 a = some (.ins C dx fs) ∧ fs.lookup m = none ∧ t σ H1 fun vs H2 => sp (.ref a :: vs) H2 Q (WE W σ)
def tMakeX (C : Addr) (sp : Sp) (W : WX) (t : TA) : TE := fun σ H Q => t σ H fun vs H1 => ∀ x dx, H1 x = none → H1 dx = none → dx ≠ x → sp (.ref x :: vs) (upd (upd H1 dx (.own x)) x (.ins C dx [])) (fun v H2 => v = .non ∧ Q (.ref x) H2) (WE W σ)
section
variable {X : Cx} {k : Nat} {ps : List Str} {sp : Sp} {x m : Str} {e o : Expr} {es : List Expr} {t : TA} {to : TE} {C f : Addr} {fd : FuncData} {p apos pos : Pos} {W : WX}
theorem pe_dE (D : DfX X.prog X.w X.K X.mg X.base x k ps sp) (hr : Room k X.A) (tk : Takes X W) (ha : PA X (e :: es) t) (hg : Gl X x := by rfl) (hdb : (x == ("__debug__" : Str)) = false := by decide)
    (he : starEach (e :: es) X.env = (false, eval e X.env) :: starEach es X.env := by rfl) (hpl : (backTo pos (starEach es X.env)).any (·.1) = false := by rfl) : PE X (.Call (.Name x p) (e :: es) [] pos) (tCallS sp (WE W) t) := by
  obtain ⟨f, fd, F, hm, hk, hb⟩ := D.ex
  exact pe_callS F hr hg hm hk hb (fun σ => passAt tk σ) ha hdb he hpl
theorem pe_dmE {pl : Sem Bool} (he : PE X o to) (c : Cls X.K C) (D : DmX X.prog X.w X.K X.mg X.base C m k ps sp) (hr : Room k X.A) (tk : Takes X W) (ha : PA X (e :: es) t)
    (hst : starEach (e :: es) X.env = (false, eval e X.env) :: starEach es X.env := by rfl) (hpl : (backTo pos (starEach es X.env)).any (·.1) = false := by rfl)
    (ht : eval (.Call (.Attribute o m apos) (e :: es) [] pos) X.env = (do
      let ov ← eval o X.env
      standAt apos.atName
      let (f, first) ← holding [ov] (getMethod ov m pl)
      callWith pos f first (backTo pos (starEach (e :: es) X.env)) (backToKw pos (keywordEach [] X.env))) := by rfl) : PE X (.Call (.Attribute o m apos) (e :: es) [] pos) (tMethX C m sp W to t) := by
  obtain ⟨f, fd, F, hm, hb⟩ := D.ex
  refine ⟨fun pins s σ H Q I h => ?_⟩
  refine PySem.W.methodCall_KW (pl := pl) (thn (he.run pins s σ H _ I h) fun u s1 ⟨x, H1, I1, rx, a, dx, fs, ex, ea, l, q⟩ => ?_) ht
  subst ex
  cases (show u = Value.ref a from rx)
  refine getmeth_ok I1 ea c hm l (PySem.W.callWith_K (first := [.ref a]) (h₀ := X.base) I.ok.mod.kin hm.kp (thn (ha.run pos pins s1 σ H1 _ I1 q) fun us s2 ⟨vs, H2, I2, r, q2⟩ => ⟨I2.kIn, ?_⟩) hst hpl)
  exact run_fnS (E := WE W) (us := .ref a :: us) (vs := .ref a :: vs) F hr hb (passAt tk σ) I2 (.cons rfl r) q2
theorem pe_dcE (D : DcX X.prog X.w X.K X.mg X.base x C k ps sp) (hr : Room (k + 1) X.A) (tk : Takes X W) (ha : PA X (e :: es) t) (hg : Gl X x := by rfl) (hdb : (x == ("__debug__" : Str)) = false := by decide)
    (he : starEach (e :: es) X.env = (false, eval e X.env) :: starEach es X.env := by rfl) (hpl : (backTo pos (starEach es X.env)).any (·.1) = false := by rfl) : PE X (.Call (.Name x p) (e :: es) [] pos) (tMakeX C sp W t) := by
  obtain ⟨f, fd, F, hm, M, hb⟩ := D.ex
  refine ⟨fun pins s0 σ H0 Q I0 h0 => ?_⟩
  refine wpAny_Call_Name_kw (ld_glob I0 hg hm ?_ hdb)
  refine PySem.W.callWith_K (h₀ := X.base) I0.ok.mod.kin M.kp (thn (ha.run pos pins s0 σ H0 _ I0 h0) fun us s ⟨vs, H, I, r, h⟩ => ⟨I.kIn, ?_⟩) he hpl
  show wpAny _ _ (call (.ref C) us) _ _ _
  have hq := h (s.heap.objs.size + 1) s.heap.objs.size (I.hok.fresh (Nat.le_succ _)) (I.hok.fresh (Nat.le_refl _)) (Nat.ne_of_lt (Nat.lt_succ_self _))
  have I2 := Inv.made (C := C) I
  have r2 : Vals (V.ref (s.heap.objs.size + 1) :: vs) (Value.ref (s.heap.objs.size + 1) :: us) := .cons rfl r
  have hl : (Value.ref (s.heap.objs.size + 1) :: us).length = ps.length := by
    have e := r2.length
    rw [F.len _ _ _ _ hq] at e
    exact e.symm
  have b := hb _ (Value.ref (s.heap.objs.size + 1) :: us) I2.kIn (by rw [List.append_nil]; exact hl)
  rw [List.append_nil] at b
  refine wpAny_call (make_map (f := f) I.kIn M.makes M.init (beq_iff_eq.mp M.fn) (codeAny_mono (F.run _ X.stack _ _ ⟨Value.ref (s.heap.objs.size + 1) :: us, []⟩ (Value.ref (s.heap.objs.size + 1) :: us) _ _ (WE W σ) (hr.make C us []) (I2.env0.make C us []) b r2 hq) fun r s' hq' => ?_))
  cases r with
  | error e => exact passAt tk σ pins _ _ e s' I2 hq'
  | ok fl =>
    cases fl with
    | ret u =>
      obtain ⟨v, H', I3, rv, ev, q3⟩ := I2.after hq'
      subst ev
      exact ⟨rv, ⟨V.ref (s.heap.objs.size + 1), H', I3, rfl, q3⟩⟩
    | next => exact False.elim hq'
    | brk => exact False.elim hq'
    | cont => exact False.elim hq'
end
section
variable {X : Cx} {W : WX} {x f : Str} {C : Addr} {e : Expr} {te : TE} {p pos pos' : Pos}
theorem Xf.oex {P : Program} {w : World} {K : PySem.W.Frag} {mg : Str → Option Value} {base : Heap} (B : Xf P w K mg base x C f) : OexC K C ∧ PySem.W.findIn K (.ref C) f = some none := by
  obtain ⟨_, _, T, _, _, _, _, _, _, hno⟩ := B.ex
  exact ⟨T, hno⟩
/-- raise X(e) -/
theorem ps_rG (B : Xf X.prog X.w X.K X.mg X.base x C f) (hr : Room 2 X.A) (tk : Takes X W) (he : PE X e te) (hc : X.calm = true := by rfl) (hg : Gl X x := by rfl) (hdb : (x == ("__debug__" : Str)) = false := by decide)
    (hst : starEach [e] X.env = (false, eval e X.env) :: starEach [] X.env := by rfl) (hpl : (backTo pos (starEach [] X.env)).any (·.1) = false := by rfl) :
    PS X (.Raise (some (.Call (.Name x p) [e] [] pos)) none pos') (fun _ σ H => tMkO C (spIn X.K f) [] (tCons te tNil) σ H fun cls d H' => W cls d σ H') := by
  obtain ⟨fI, fd, T, iC, tI, F1, hm, hb, _, hno⟩ := B.ex
  exact ps_raise hc tk (pmk_oex T iC tI F1 hr hb .nil pass0 hg hm (pa_cons he pa_nil (hs := hst)) hdb hst hpl)
end
theorem pe_fldK {X : Cx} {K : PySem.W.Frag} {e : Expr} {ta : TE} {f : Str} {pos : Pos} (he : PE X e ta) (hb : attributeBase e f X.env (eval e X.env) = eval e X.env := by rfl) (hK : X.K = K := by rfl) : PE X (.Attribute e f pos) (tFld K ta f) := by
  subst hK
  exact pe_fld he hb
end Fm

/-! ## K06A -/
set_option Elab.async false
set_option maxRecDepth 100000
set_option maxHeartbeats 4000000
namespace Fm
open PySem L2
def topS (i : Nat) : Stmt := PySem.Challenge.pw_firstmet_k06_stores_histories.main.body.getD i (.Pass ⟨0, 0, 0, 0⟩)
/-- what the top has left of names -/
structure Txt (K : PySem.W.Frag) (mg : Str → Option Value) (CS : Addr) : Prop where
  n_len : mg "len" = none
  n_list : mg "list" = none
  n_tuple : mg "tuple" = none
  n_isinstance : mg "isinstance" = none
  n_str : mg "str" = none
  n_dict : mg "dict" = none
  n_bool : mg "bool" = none
  n_int : mg "int" = none
  n_max : mg "max" = none
  n_all : mg "all" = none
  n_set : mg "set" = none
  n_range : mg "range" = none
  n_enumerate : mg "enumerate" = none
  n_min : mg "min" = none
  n_sum : mg "sum" = none
  g_LETTERS : ∃ t, mg "LETTERS" = some (.str "abcdefghijklmnopqrstuvwxyz" t)
  g_LONGEST_NAME : ∃ t, mg "LONGEST_NAME" = some (.int 8 t)
  g_MOST_TABLES : ∃ t, mg "MOST_TABLES" = some (.int 5 t)
  g_MOST_FIELDS : ∃ t, mg "MOST_FIELDS" = some (.int 4 t)
  g_LARGEST_VALUE : ∃ t, mg "LARGEST_VALUE" = some (.int 1000000000 t)
  g_MOST_ROWS : ∃ t, mg "MOST_ROWS" = some (.int 300 t)
  g_Shape : mg "Shape" = some (.ref CS)
  cl : Cls K CS
  nT : NoAttr K CS "tables"
  c_cls : PySem.W.findIn K (.ref CS) "__class__" = some (some (.builtin "object.__class__"))
  c_get : PySem.W.specialIn K (.builtin "object.__class__") "__get__" = some (some (.builtin "getset_descriptor.__get__"))
  c_tak : PySem.W.takesIn K (.builtin "object.__class__") = some true
  c_mro : PySem.W.mroIn K CS (.type "object") = some true
  c_ne : PySem.W.findIn K (.ref CS) "__ne__" = some (some (.builtin "object.__ne__"))
  c_isi : ∀ n ∈ ["NoneType", "bool", "int", "str", "list", "tuple", "dict"], PySem.W.kitOne K (.type n) (.ref CS) = some false
  c_nf : ∀ n ∈ ["NoneType", "bool", "int", "str", "list", "tuple", "dict"], PySem.W.notFirst K CS (.type n) = true
section
variable {P : Program} {w : World} {K : PySem.W.Frag} {mg : Str → Option Value} {base : Heap} {CS : Addr}
abbrev s_l_pick : Stmt := topS 31
abbrev sc_l_pickN : List Str := ["_law_bag_here", "_law_many", "_law_cell", "_law_found", "_law_one"]
abbrev ps_l_pick : List Str := ["_law_bag_here", "_law_many"]
theorem sc_l_pick : FnScope sc_l_pickN ps_l_pick (defScope s_l_pick) := ⟨rfl, rfl, rfl, by decide +kernel, rfl, by decide +kernel, by decide +kernel⟩
theorem ok_l_pick {f : Addr} {fd : FuncData} (F : Fun K "_law_pick" "_law_pick" s_l_pick f fd) (T : Txt K mg CS) : FnOk P w K mg base CX0 1 f fd ps_l_pick spPick := by
  refine F.ok sc_l_pick (fun vs H Q E h => ?_) (fun cdv A outer s H vs Q E hr h => ?_)
  · obtain ⟨_, _, _, rfl, _⟩ := h
    rfl
  · obtain ⟨F0, b, m, rfl, m0, m1, ⟨hs, hfb, cl, ns, p, g, z, c, hh, hcl0, hcb, hcl, hb, p0, g0, z0, z1⟩, k⟩ := h
    have fin : ∀ (r p' g' z' c' h' : Int) (H' : Hp), 0 ≤ r → r < m → 0 ≤ p' → 0 ≤ g' → 0 ≤ z' → z' < 2147483647 → (∀ a, a ≠ b → H' a = H a) → H' b = some (.lst [.ref cl, .int p', .int g', .int z', .int c', .int h']) → Q (.int r) H' :=
      fun r p' g' z' c' h' H' r0 r1 q0 q1 q2 q3 ho hb' => k r H' r0 r1 ⟨fun a o e => by
        have n : a ≠ b := fun q => by rw [q, hfb] at e; cases e
        rw [ho a n]; exact hs a o e, hfb, cl, ns, p', g', z', c', h', hcl0, hcb, by rw [ho cl hcb]; exact hcl, hb', q0, q1, q2, q3⟩
    refine ⟨_, (pss_cons (ps_asg (pe_op op_add (pe_ix ix_list (pv 0) pe_int (fun _ _ => rfl)) pe_int) (pg_sub (pv 0) pe_int set_list))
  (Evl.pss_cut (ps_if (PW.pt (pw_and (pt_cmpR op_eq (pe_ix ix_list (pv 0) pe_int (fun _ _ => rfl)) pe_int (nomark _)) (pw_and (pt_cmpR op_eq (pe_ix ix_list (pv 0) pe_int (fun _ _ => rfl)) pe_int (nomark _)) (pw_and1 (pt_cmpR op_lt (pe_ix ix_list (pv 0) pe_int (fun _ _ => rfl)) (pe_callB call_len_seq (by rfl) T.n_len (by decide +kernel) (pa_cons (pe_ix ix_list (pv 0) pe_int (fun _ _ => rfl)) pa_nil)) (nomark _))))))
    (pss_cons (ps_set (i := 2) sc_l_pick.nd rfl (Or.inl rfl) (pe_ix ix_list (pe_ix ix_list (pv 0) pe_int (fun _ _ => rfl)) (pe_ix ix_list (pv 0) pe_int (fun _ _ => rfl)) (fun _ _ => rfl)))
    (pss_cons (ps_asg (pe_op op_add (pe_ix ix_list (pv 0) pe_int (fun _ _ => rfl)) pe_int) (pg_sub (pv 0) pe_int set_list))
    (pss_one (ps_if (pt_cmpR op_ge (pv 2) (pe_op op_pow pe_int pe_int) (nomark _))
      (pss_one (ps_asg (pv 2) (pg_sub (pv 0) pe_int set_list)))
      (pss_cons (ps_asg (pe_op op_modN (pe_callTy call_int1 (by rfl) T.n_int (by decide +kernel) (pa_cons (pe_op op_add (pe_op op_add (pe_op op_mul (pe_ix ix_list (pv 0) pe_int (fun _ _ => rfl)) pe_int) (pv 2)) pe_int) pa_nil)) pe_int) (pg_sub (pv 0) pe_int set_list))
      (pss_one (ps_asg pe_int (pg_sub (pv 0) pe_int set_list))))))))
    pss_nil)
  (pss_cons (ps_if (pt_cmpR op_gt (pe_ix ix_list (pv 0) pe_int (fun _ _ => rfl)) pe_int (nomark _))
    (pss_cons (ps_set (i := 3) sc_l_pick.nd rfl (Or.inl rfl) (pe_op op_modN (pe_callTy call_int1 (by rfl) T.n_int (by decide +kernel) (pa_cons (pe_ix ix_list (pv 0) pe_int (fun _ _ => rfl)) pa_nil)) (pv 1)))
    (pss_cons (ps_asg (pe_op op_fdivN (pe_ix ix_list (pv 0) pe_int (fun _ _ => rfl)) (pv 1)) (pg_sub (pv 0) pe_int set_list))
    (pss_one (ps_ret (pv 3)))))
    pss_nil)
  (pss_cons (ps_asg (pe_callB (call_max2 (by rfl)) (by rfl) T.n_max (by decide +kernel) (pa_cons pe_int (pa_cons (pe_op op_sub (pe_ix ix_list (pv 0) pe_int (fun _ _ => rfl)) pe_int) pa_nil))) (pg_sub (pv 0) pe_int set_list))
  (pss_cons (ps_set (i := 4) sc_l_pick.nd rfl (Or.inl rfl) (pe_op op_modN (pe_callTy call_int1 (by rfl) T.n_int (by decide +kernel) (pa_cons (pe_op op_mul (pe_op op_add (pe_op op_add (pe_ix ix_list (pv 0) pe_int (fun _ _ => rfl)) (pe_op op_mul pe_int (pe_ix ix_list (pv 0) pe_int (fun _ _ => rfl)))) pe_int) pe_int) pa_nil)) pe_int))
  (pss_cons (ps_set (i := 4) sc_l_pick.nd rfl (Or.inl rfl) (pe_op op_modN (pe_callTy call_int1 (by rfl) T.n_int (by decide +kernel) (pa_cons (pe_op op_mul (pv 4) (pe_op op_add (pe_op op_fdivN (pv 4) pe_int) pe_int)) pa_nil)) pe_int))
  (pss_cons (ps_set (i := 4) sc_l_pick.nd rfl (Or.inl rfl) (pe_op op_modN (pe_callTy call_int1 (by rfl) T.n_int (by decide +kernel) (pa_cons (pe_op op_mul (pv 4) (pe_op op_add (pe_op op_fdivN (pv 4) pe_int) pe_int)) pa_nil)) pe_int))
  (pss_one (ps_ret (pe_op op_modN (pe_callTy call_int1 (by rfl) T.n_int (by decide +kernel) (pa_cons (pe_op op_fdivN (pv 4) pe_int) pa_nil)) (pv 1))))))))))), ?_⟩
    have nzM : (2147483647 : Int) ≠ 0 := by decide
    have nzM2 : (2147483399 : Int) ≠ 0 := by decide
    -- one more asked
    refine ⟨_, rfl, b, _, _, _, rfl, rfl, .inl (.inl hb), rfl, _, _, rfl, rfl, _, rfl, b, _, _, _, rfl, rfl, hb, rfl, ?_⟩
    -- a new cell
    refine ⟨fun σ' H' => ∃ (p' g' z' h' : Int) (v : Option V), σ' = [some (.ref b), some (.int m), v, none, none] ∧ 0 ≤ p' ∧ 0 ≤ g' ∧ 0 ≤ z' ∧ z' < 2147483647 ∧ (∀ a, a ≠ b → H' a = H a) ∧
      H' b = some (.lst [.ref cl, .int p', .int g', .int z', .int (c + 1), .int h']), ?_, ?_⟩
    · have stay : ∀ a, a ≠ b → (upd H b (.lst [.ref cl, .int p, .int g, .int z, .int (c + 1), .int hh])) a = H a := fun a n => upd_ne n
      refine ⟨_, rfl, b, _, _, _, rfl, rfl, .inl (.inl upd_same), rfl, rfl, _, rfl, ifd (fun _ => ?_) fun _ => iteF ⟨p, g, z, hh, _, rfl, p0, g0, z0, z1, stay, upd_same⟩⟩
      refine ⟨_, rfl, b, _, _, _, rfl, rfl, .inl (.inl upd_same), rfl, rfl, _, rfl, ifd (fun _ => ?_) fun _ => iteF ⟨p, g, z, hh, _, rfl, p0, g0, z0, z1, stay, upd_same⟩⟩
      refine ⟨_, rfl, b, _, _, _, rfl, rfl, .inl (.inl upd_same), rfl, _, rfl, b, _, _, _, rfl, rfl, .inl (.inl upd_same), rfl, cl, _, rfl, .inl (.inl (.inl (by rw [upd_ne hcb]; exact hcl))), _, _, rfl, rfl, _, rfl, ifd (fun hlt => ?_) fun _ => ⟨p, g, z, hh, _, rfl, p0, g0, z0, z1, stay, upd_same⟩⟩
      rw [List.length_map] at hlt
      obtain ⟨n, rfl⟩ : ∃ n : Nat, p = (n : Int) := ⟨p.toNat, by omega⟩
      obtain ⟨u, hu⟩ : ∃ u, ns[n]? = some u := ⟨_, List.getElem?_eq_getElem (by omega)⟩
      refine ⟨_, rfl, b, _, _, _, rfl, rfl, .inl (.inl upd_same), rfl, _, rfl, b, _, _, _, rfl, rfl, .inl (.inl upd_same), rfl, cl, _, _, _, rfl, rfl, .inl (.inl (by rw [upd_ne hcb]; exact hcl)), atI_nat (by rw [List.getElem?_map, hu]; rfl), ?_⟩
      refine ⟨_, rfl, b, _, _, _, rfl, rfl, .inl (.inl upd_same), rfl, _, _, rfl, rfl, _, rfl, b, _, _, _, rfl, rfl, upd_same, rfl, ?_⟩
      refine ⟨_, rfl, _, _, rfl, rfl, ⟨by decide, by decide, by decide⟩, _, _, rfl, rfl, _, rfl, ifd (fun hge => ?_) fun _ => ?_⟩
      · refine ⟨_, rfl, _, rfl, b, _, _, _, rfl, rfl, upd_same, rfl, ?_⟩
        have hge' : (10 : Int) ^ 18 ≤ u := hge
        exact ⟨(n : Int) + 1, u, z, hh, _, rfl, by omega, by omega, z0, z1, fun a n => by rw [upd_ne n, upd_ne n, upd_ne n], upd_same⟩
      · refine ⟨_, rfl, b, _, _, _, rfl, rfl, .inl (.inl upd_same), rfl, _, _, rfl, rfl, .inl ⟨by omega, by omega⟩, _, rfl, _, _, rfl, rfl, _, _, rfl, rfl, .inl ⟨_, rfl, _, _, rfl, rfl, nzM, _, rfl, b, _, _, _, rfl, rfl, upd_same, rfl, ?_⟩⟩
        refine ⟨_, rfl, b, _, _, _, rfl, rfl, upd_same, rfl, ?_⟩
        exact ⟨(n : Int) + 1, g, _, 6, _, rfl, by omega, g0, fmod_lo (by decide), fmod_hi (by decide), fun a n => by rw [upd_ne n, upd_ne n, upd_ne n, upd_ne n], upd_same⟩
    · rintro σ' H' ⟨p', g', z', h', v, rfl, p0', g0', z0', z1', ho, hb'⟩
      refine ⟨_, rfl, b, _, _, _, rfl, rfl, .inl (.inl hb'), rfl, _, _, rfl, rfl, _, rfl, ifd (fun hg => ?_) fun _ => ?_⟩
      · refine ⟨_, rfl, b, _, _, _, rfl, rfl, .inl (.inl hb'), rfl, .inl ⟨_, rfl, _, rfl, _, _, rfl, rfl, Int.ne_of_gt m0, ?_⟩⟩
        refine ⟨_, rfl, b, _, _, _, rfl, rfl, .inl (.inl hb'), rfl, _, rfl, _, _, rfl, rfl, ⟨Int.ne_of_gt m0, by omega⟩, _, rfl, b, _, _, _, rfl, rfl, hb', rfl, ?_⟩
        refine ⟨_, rfl, ?_⟩
        exact fin _ p' _ z' _ h' _ (fmod_lo m0) (fmod_hi m0) p0' (fdiv_lo g0' m0) z0' z1' (fun a n => by rw [upd_ne n]; exact ho a n) upd_same
      · refine ⟨_, rfl, b, _, _, _, rfl, rfl, .inl (.inl hb'), rfl, _, _, rfl, rfl, _, _, rfl, _, rfl, b, _, _, _, rfl, rfl, hb', rfl, ?_⟩
        refine ⟨_, rfl, b, _, _, _, rfl, rfl, .inl (.inl upd_same), rfl, _, rfl, b, _, _, _, rfl, rfl, .inl (.inl upd_same), rfl, _, _, rfl, rfl, .inl ⟨by decide, by decide⟩, _, _, rfl, rfl, _, _, rfl, rfl, _, _, rfl, rfl, .inr ⟨by decide, by decide⟩, .inl ⟨_, rfl, _, _, rfl, rfl, nzM, ?_⟩⟩
        refine ⟨_, rfl, _, rfl, _, _, rfl, rfl, ⟨by decide, by decide⟩, _, _, rfl, rfl, _, _, rfl, rfl, .inl (fmod64 _ (by decide) (by decide)), .inl ⟨_, rfl, _, _, rfl, rfl, nzM, ?_⟩⟩
        refine ⟨_, rfl, _, rfl, _, _, rfl, rfl, ⟨by decide, by decide⟩, _, _, rfl, rfl, _, _, rfl, rfl, .inl (fmod64 _ (by decide) (by decide)), .inl ⟨_, rfl, _, _, rfl, rfl, nzM2, ?_⟩⟩
        refine ⟨_, rfl, _, _, rfl, rfl, ⟨by decide, by decide⟩, .inl ⟨_, rfl, _, rfl, _, _, rfl, rfl, Int.ne_of_gt m0, ?_⟩⟩
        exact fin _ p' g' z' _ _ _ (fmod_lo m0) (fmod_hi m0) p0' g0' z0' z1' (fun a n => by rw [upd_ne n]; exact ho a n) upd_same
end
end Fm

/-! ## K06B -/
set_option Elab.async false
set_option maxRecDepth 100000
set_option maxHeartbeats 4000000
namespace Fm
open PySem L2
/-- a list or a tuple that stands at a -/
def Sq (K : PySem.W.Frag) (H : Hp) (a : Addr) (xs : List V) : Prop := SqL K H a xs ∨ SqT K H a xs
theorem Sq.same {K : PySem.W.Frag} {H H' : Hp} {a : Addr} {xs : List V} (h : Sq K H a xs) (e : Same H H') : Sq K H' a xs := h.elim (fun h => .inl (e.seq h)) fun h => .inr (same_sqT e h)
theorem seq_ty {K : PySem.W.Frag} {H : Hp} {a : Addr} {xs : List V} (h : Sq K H a xs) : ∃ n, TyX K H (.ref a) (.type n) ∧ PySem.W.kitAny K (.type n) [.type "list", .type "tuple"] = some true ∧ PySem.W.kitOne K (.type n) (.type "str") = some false := by
  have yes : PySem.W.kitAny K (.type "list") [.type "list", .type "tuple"] = some true := kitAny_cons (b := true) (kit_ty (by decide +kernel)) (fun z => nomatch z) fun _ => rfl
  have no : PySem.W.kitAny K (.type "tuple") [.type "list", .type "tuple"] = some true := kitAny_cons (b := false) (kit_ty (by decide +kernel)) (fun _ => kitAny_cons (b := true) (kit_ty (by decide +kernel)) (fun z => nomatch z) fun _ => rfl) fun z => nomatch z
  have k1 : PySem.W.kitOne K (.type "list") (.type "str") = some false := kit_ty (by decide +kernel)
  have k2 : PySem.W.kitOne K (.type "tuple") (.type "str") = some false := kit_ty (by decide +kernel)
  rcases h with ((h | ⟨o, h⟩) | ⟨o, its, n, h, hc, _⟩) | ((h | ⟨o, h⟩) | ⟨o, its, n, h, hc, _⟩)
  · exact ⟨_, .base (.lst h), yes, k1⟩
  · exact ⟨_, .base (.frz h), yes, k1⟩
  · exact ⟨_, .kList h hc, yes, k1⟩
  · exact ⟨_, .base (.tup h), no, k2⟩
  · exact ⟨_, .fTuple h, no, k2⟩
  · exact ⟨_, .kTuple h hc, no, k2⟩
theorem tup_ty {K : PySem.W.Frag} {H : Hp} {a : Addr} {xs : List V} (h : SqT K H a xs) : ∃ n, TyX K H (.ref a) (.type n) ∧ PySem.W.kitOne K (.type n) (.type "tuple") = some true := by
  have k : PySem.W.kitOne K (.type "tuple") (.type "tuple") = some true := kit_ty (by decide +kernel)
  rcases h with (h | ⟨o, h⟩) | ⟨o, its, n, h, hc, _⟩
  · exact ⟨_, .base (.tup h), k⟩
  · exact ⟨_, .fTuple h, k⟩
  · exact ⟨_, .kTuple h hc, k⟩
theorem clsLT : Paired ClsV [V.ty "list", V.ty "tuple"] [Value.type "list", Value.type "tuple"] := .cons (.ty _) (.cons (.ty _) .nil)
section
variable {P : Program} {w : World} {K : PySem.W.Frag} {mg : Str → Option Value} {base : Heap} {CS : Addr}
def spIsName (K : PySem.W.Frag) : Sp := fun vs H Q _ => ∃ (v : V) (r : Bool), vs = [v] ∧ ((∃ s : Str, v = .str s ∧ s.length ≤ 100000 ∧ r = isNm s) ∨ ∃ n, TyX K H v (.type n) ∧ kitB n "str" = some false ∧ r = false) ∧ ∀ H', Same H H' → Q (.bl r) H'
abbrev s_is_name : Stmt := topS 6
abbrev sc_is_nameN : List Str := ["thing", "sign"]
abbrev ps_is_name : List Str := ["thing"]
theorem sc_is_name : FnScope sc_is_nameN ps_is_name (defScope s_is_name) := ⟨rfl, rfl, rfl, by decide +kernel, rfl, by decide +kernel, by decide +kernel⟩
theorem ok_is_name {f : Addr} {fd : FuncData} (F : Fun K "is_name" "is_name" s_is_name f fd) (T : Txt K mg CS) : FnOk P w K mg base CX0 1 f fd ps_is_name (spIsName K) := by
  refine F.ok sc_is_name (fun vs H Q E h => ?_) (fun cdv A outer s H vs Q E hr h => ?_)
  · obtain ⟨_, _, rfl, _⟩ := h
    rfl
  · obtain ⟨v, r, rfl, h, k⟩ := h
    refine ⟨_, (pss_cons (ps_if (PW.pt (pw_or (pt_not (pt_val (pe_callB call_isi (by rfl) T.n_isinstance (by decide +kernel) (pa_cons (pv 0) (pa_cons (pe_bltn (v := .ty "str") (by rfl) T.n_str (by decide +kernel) rfl) pa_nil))))) (pw_or1 (pt_not (pt_chain op_le op_le pe_int (pe_callB call_len_str (by rfl) T.n_len (by decide +kernel) (pa_cons (pv 0) pa_nil)) (pe_gI T.g_LONGEST_NAME))))))
    (pss_one (ps_ret pe_bl))
    pss_nil)
  (pss_one (ps_ret (pe_callB (cr_all (by rfl)) (by rfl) T.n_all (by decide +kernel) (pa_cons (pe_lc (own := [("sign", 1)]) (g := gName 1) (tt := tYes) (by rfl) sc_is_name.nd (pi_str (pv 0)) (blkOk_by (own := [("sign", 1)]) (N := sc_is_nameN) (sc := defScope s_is_name) (by decide +kernel)) (fun _ _ _ _ _ => pg_name (i := 1) sc_is_name.nd rfl (Or.inl rfl)) (fun _ _ _ _ _ => pts_nil) (fun _ _ _ _ _ => (pe_cmpR op_in_sign (pv 1) (pe_gS T.g_LETTERS) (by rfl)))) pa_nil))))), ?_⟩
    rcases h with ⟨z, rfl, hz, rfl⟩ | ⟨n, ty, hk, rfl⟩
    · have hz' : z.length ≤ sizeLine := Nat.le_trans hz (by decide)
      refine ⟨_, rfl, _, _, _, _, _, rfl, .ty _, .base (.str _), kit_ty (b := "str") (r := true) (by decide +kernel), _, rfl, iteF ?_⟩
      have len : z.cps.toList.length ≤ 100000 := by
        have q : z.cps.toList.length = z.length := by simp [Str.length]
        rw [q]
        exact hz
      have short : ∀ H', Same H H' → (1 ≤ z.length ∧ z.length ≤ 8 → False) → Q (.bl false) H' := fun H' e n => by
        have q := k H' e
        have r0 : isNm z = false := by
          unfold isNm
          rw [← Bool.decide_and, decide_eq_false n]
          rfl
        rw [r0] at q
        exact q
      refine ⟨_, rfl, _, rfl, hz', _, _, rfl, rfl, _, rfl, ifd (fun h1 => ?_) fun h1 => ?_⟩
      · refine ⟨_, _, rfl, rfl, _, rfl, ifn (fun h2 => ?_) fun h2 => ?_⟩
        · exact short _ (Same.refl _) fun q => h2 (by omega)
        · refine ⟨_, rfl, _, rfl, fun D hD => ?_⟩
          refine lc_it (walk_str (z := z)) (fun i H' => Same H H' ∧ H' D = some (.lst ((z.cps.toList.take i).map fun c => V.bl (decide (c ∈ letters.cps.toList)))))
            ⟨same_new _ hD, by rw [upd_same]; rfl⟩ (fun _ _ _ _ => trivial) ?_ ?_
          · rintro i x H1 H2 hi ⟨s1, d1⟩ ⟨rfl, c, hc, rfl⟩
            refine ⟨rfl, _, rfl, c, letters, rfl, rfl, _, d1, take_lt _ len, same_put s1 _ hD, ?_⟩
            rw [upd_same, map_take _ (by simpa using hc)]
          · rintro H1 ⟨s1, d1⟩
            have e1 : z.cps.toList.take z.cps.size = z.cps.toList := by
              rw [← Array.length_toList, List.take_length]
            rw [e1, bl_map] at d1
            refine ⟨D, _, rfl, .inl (.inl d1), ?_⟩
            have q := k _ s1
            have r1 : isNm z = (z.cps.toList.map fun c => decide (c ∈ letters.cps.toList)).all id := by
              unfold isNm
              rw [decide_eq_true (show 1 ≤ z.length by omega), decide_eq_true (show z.length ≤ 8 by omega), List.all_map]
              simp only [letters_mem]
              rfl
            rw [r1] at q
            exact q
      · refine ⟨_, rfl, iteT ?_⟩
        exact short _ (Same.refl _) fun q => h1 (by omega)
    · refine ⟨_, rfl, _, _, _, _, _, rfl, .ty _, ty, kit_ty hk, _, rfl, iteT ?_⟩
      exact k _ (Same.refl _)
def isNmD : PyData → Bool
  | .str s => isNm s
  | _ => false
theorem rw_sq {H : Hp} {a : Addr} {xs : List V} (h : Rw H a xs) : Sq K H a xs := h.elim (fun h => .inl (.inl (.inl h))) fun h => .inr (.inl (.inl h))
theorem nm_case {H : Hp} {v : V} {d : PyData} (hv : Tp H v d) (hm : mst d ≤ 100000) : (∃ s : Str, v = .str s ∧ s.length ≤ 100000 ∧ isNmD d = isNm s) ∨ ∃ n, TyX K H v (.type n) ∧ kitB n "str" = some false ∧ isNmD d = false := by
  cases d with
  | str s => exact .inl ⟨s, hv.strI, hm, rfl⟩
  | none => exact .inr ⟨_, hv.ty, rfl, rfl⟩
  | bool _ => exact .inr ⟨_, hv.ty, rfl, rfl⟩
  | int _ => exact .inr ⟨_, hv.ty, rfl, rfl⟩
  | list _ => exact .inr ⟨_, hv.ty, rfl, rfl⟩
  | tuple _ => exact .inr ⟨_, hv.ty, rfl, rfl⟩
  | dict _ => exact .inr ⟨_, hv.ty, rfl, rfl⟩
/-- a list or a tuple of so many -/
def rowD3 (lo hi : Int) (d : PyData) : Bool := isRowD d && decide (lo ≤ ((partsD d).length : Int)) && decide (((partsD d).length : Int) ≤ hi)
def spIsRow (K : PySem.W.Frag) : Sp := fun vs H Q _ => ∃ (v : V) (d : PyData) (lo hi : Int), vs = [v, .int lo, .int hi] ∧ Tp H v d ∧ ∀ H', Same H H' → Q (.bl (rowD3 lo hi d)) H'
abbrev s_is_row : Stmt := topS 7
abbrev sc_is_rowN : List Str := ["thing", "least", "most"]
abbrev ps_is_row : List Str := ["thing", "least", "most"]
theorem sc_is_row : FnScope sc_is_rowN ps_is_row (defScope s_is_row) := ⟨rfl, rfl, rfl, by decide +kernel, rfl, by decide +kernel, by decide +kernel⟩
theorem ok_is_row {f : Addr} {fd : FuncData} (F : Fun K "is_row" "is_row" s_is_row f fd) (T : Txt K mg CS) : FnOk P w K mg base CX0 1 f fd ps_is_row (spIsRow K) := by
  refine F.ok sc_is_row (fun vs H Q E h => ?_) (fun cdv A outer s H vs Q E hr h => ?_)
  · obtain ⟨_, _, _, _, rfl, _⟩ := h
    rfl
  · obtain ⟨v, d, lo, hi, rfl, hv, k⟩ := h
    refine ⟨_, (pss_one (ps_ret (pe_and (pe_callB call_isiT (by rfl) T.n_isinstance (by decide +kernel) (pa_cons (pv 0) (pa_cons (pe_tup (pa_cons (pe_bltn (v := .ty "list") (by rfl) T.n_list (by decide +kernel) rfl) (pa_cons (pe_bltn (v := .ty "tuple") (by rfl) T.n_tuple (by decide +kernel) rfl) pa_nil))) pa_nil))) (pe_one (pe_chain op_le op_le (pv 1) (pe_callB call_len_seq (by rfl) T.n_len (by decide +kernel) (pa_cons (pv 0) pa_nil)) (pv 2)))))), ?_⟩
    refine ⟨_, rfl, (by show 2 ≤ sizeLine; decide), fun tp htp => ?_⟩
    have s1 : Same H (upd H tp (.tup [.ty "list", .ty "tuple"])) := same_new _ htp
    refine ⟨_, tp, _, _, _, _, rfl, upd_same, clsLT, (hv.same s1).ty, kitAny_row, _, rfl, ?_⟩
    have q := k _ s1
    unfold rowD3 at q
    cases e : isRowD d with
    | false =>
      rw [e] at q
      exact iteF q
    | true =>
      rw [e] at q
      obtain ⟨a, xs, rfl, hx, ha⟩ := (hv.same s1).row e
      rw [← ha.len] at q
      refine iteT ⟨_, rfl, _, rfl, a, xs, rfl, rw_sq hx, _, _, rfl, rfl, _, rfl, ifd (fun h1 => ?_) fun h1 => ?_⟩
      · refine ⟨_, rfl, _, _, rfl, rfl, ?_⟩
        rw [decide_eq_true h1] at q
        exact q
      · rw [decide_eq_false h1] at q
        exact q
/-- a tuple of just so many -/
def tupD (m : Nat) : PyData → Bool
  | .tuple ds => decide (ds.length = m)
  | _ => false
def spIsTuple (K : PySem.W.Frag) : Sp := fun vs H Q _ => ∃ (v : V) (d : PyData) (m : Nat), vs = [v, .int m] ∧ Tp H v d ∧ Q (.bl (tupD m d)) H
abbrev s_is_tuple : Stmt := topS 8
abbrev sc_is_tupleN : List Str := ["thing", "many"]
abbrev ps_is_tuple : List Str := ["thing", "many"]
theorem sc_is_tuple : FnScope sc_is_tupleN ps_is_tuple (defScope s_is_tuple) := ⟨rfl, rfl, rfl, by decide +kernel, rfl, by decide +kernel, by decide +kernel⟩
theorem ok_is_tuple {f : Addr} {fd : FuncData} (F : Fun K "is_tuple" "is_tuple" s_is_tuple f fd) (T : Txt K mg CS) : FnOk P w K mg base CX0 1 f fd ps_is_tuple (spIsTuple K) := by
  refine F.ok sc_is_tuple (fun vs H Q E h => ?_) (fun cdv A outer s H vs Q E hr h => ?_)
  · obtain ⟨_, _, _, rfl, _⟩ := h
    rfl
  · obtain ⟨v, d, m, rfl, hv, k⟩ := h
    refine ⟨_, (pss_one (ps_ret (pe_and (pe_callB call_isi (by rfl) T.n_isinstance (by decide +kernel) (pa_cons (pv 0) (pa_cons (pe_bltn (v := .ty "tuple") (by rfl) T.n_tuple (by decide +kernel) rfl) pa_nil))) (pe_one (pe_cmpR op_eq (pe_callB call_len_seq (by rfl) T.n_len (by decide +kernel) (pa_cons (pv 0) pa_nil)) (pv 1) (nomark _)))))), ?_⟩
    refine ⟨_, rfl, _, _, _, _, _, rfl, .ty _, hv.ty, kit_ty (kit_d (by simp)), _, rfl, ?_⟩
    cases d with
    | tuple ds =>
      obtain ⟨a, xs, rfl, hx, ha⟩ := hv.tuple
      refine iteT ⟨_, rfl, a, xs, rfl, .inr (.inl (.inl hx)), _, rfl, rfl, ?_⟩
      rw [ha.len]
      have e : decide (V.int (ds.length : Int) = V.int (m : Int)) = decide (ds.length = m) := by
        by_cases h : ds.length = m
        · rw [decide_eq_true h, h]
          exact decide_eq_true rfl
        · rw [decide_eq_false h]
          exact decide_eq_false fun z => h (Int.ofNat.inj (V.int.inj z))
      show Q (V.bl (decide (V.int (ds.length : Int) = V.int (m : Int)))) H
      rw [e]
      exact k
    | none => exact iteF k
    | bool _ => exact iteF k
    | int _ => exact iteF k
    | str _ => exact iteF k
    | list _ => exact iteF k
    | dict _ => exact iteF k
/-- the texts among the parts -/
def strsD : List PyData → List Str
  | [] => []
  | .str s :: ds => s :: strsD ds
  | _ :: ds => strsD ds
theorem strs_all : ∀ {ds : List PyData}, ds.all isNmD = true → ds = (strsD ds).map PyData.str ∧ (strsD ds).all isNm = true
  | [], _ => ⟨rfl, rfl⟩
  | d :: ds, h => by
    rw [List.all_cons, Bool.and_eq_true] at h
    obtain ⟨z1, z2⟩ := strs_all h.2
    cases d with
    | str s =>
      refine ⟨?_, ?_⟩
      · show PyData.str s :: ds = PyData.str s :: (strsD ds).map PyData.str
        rw [← z1]
      · show (s :: strsD ds).all isNm = true
        rw [List.all_cons, z2, Bool.and_true]
        exact h.1
    | _ => cases h.1
/-- so many names, none twice -/
def nmsD (lo hi : Int) (d : PyData) : Bool := rowD3 lo hi d && (partsD d).all isNmD && decide (strsD (partsD d)).Nodup
theorem isNm_len {s : Str} (h : isNm s = true) : s.length ≤ 100000 := by
  unfold isNm at h
  simp only [Bool.and_eq_true, decide_eq_true_eq] at h
  omega
def spAreNames (K : PySem.W.Frag) : Sp := fun vs H Q _ => ∃ (v : V) (d : PyData) (lo hi : Int), vs = [v, .int lo, .int hi] ∧ Tp H v d ∧ siz d ≤ 100000 ∧ mst d ≤ 100000 ∧ hi ≤ 100 ∧ ∀ H', Same H H' → Q (.bl (nmsD lo hi d)) H'
abbrev s_are_names : Stmt := topS 9
abbrev sc_are_namesN : List Str := ["thing", "least", "most", "name"]
abbrev ps_are_names : List Str := ["thing", "least", "most"]
theorem sc_are_names : FnScope sc_are_namesN ps_are_names (defScope s_are_names) := ⟨rfl, rfl, rfl, by decide +kernel, rfl, by decide +kernel, by decide +kernel⟩
theorem ok_are_names {f : Addr} {fd : FuncData} (F : Fun K "are_names" "are_names" s_are_names f fd) (T : Txt K mg CS) (D_is_row : Df P w K mg base "is_row" 1 ps_is_row (spIsRow K)) (D_is_name : Df P w K mg base "is_name" 1 ps_is_name (spIsName K)) :
    FnOk P w K mg base CX0 2 f fd ps_are_names (spAreNames K) := by
  refine F.ok sc_are_names (fun vs H Q E h => ?_) (fun cdv A outer s H vs Q E hr h => ?_)
  · obtain ⟨_, _, _, _, rfl, _⟩ := h
    rfl
  · obtain ⟨v, d, lo, hi, rfl, hv, hs, hm, hi100, k⟩ := h
    refine ⟨_, (pss_cons (ps_if (PW.pt (pw_or (pt_not (pt_val (pe_d D_is_row (hr.mono (by decide)) (pa_cons (pv 0) (pa_cons (pv 1) (pa_cons (pv 2) pa_nil)))))) (pw_or1 (pt_not (pt_val (pe_callB (cr_all (by rfl)) (by rfl) T.n_all (by decide +kernel) (pa_cons (pe_lc (own := [("name", 3)]) (g := gName 3) (tt := tYes) (by rfl) sc_are_names.nd (pi_any (pv 0)) (blkOk_by (own := [("name", 3)]) (N := sc_are_namesN) (sc := defScope s_are_names) (by decide +kernel)) (fun _ _ _ _ _ => pg_name (i := 3) sc_are_names.nd rfl (Or.inl rfl)) (fun _ _ _ _ _ => pts_nil) (fun _ _ _ _ _ => (pe_d D_is_name (hr.mono (by decide)) (pa_cons (pv 3) pa_nil)))) pa_nil)))))))
    (pss_one (ps_ret pe_bl))
    pss_nil)
  (pss_one (ps_ret (pe_cmpR op_eq (pe_lenS (by rfl) T.n_len T.n_set (pv 0)) (pe_callB call_len_seq (by rfl) T.n_len (by decide +kernel) (pa_cons (pv 0) pa_nil)) (nomark _))))), ?_⟩
    refine ⟨_, rfl, _, rfl, _, rfl, v, d, lo, hi, rfl, hv, fun H1 s1 => ⟨_, rfl, ?_⟩⟩
    unfold nmsD at k
    cases er : rowD3 lo hi d with
    | false =>
      rw [er] at k
      exact iteT (iteT (k _ s1))
    | true =>
      rw [er] at k
      have e : isRowD d = true := by
        unfold rowD3 at er
        simp only [Bool.and_eq_true] at er
        exact er.1.1
      obtain ⟨a, xs, rfl, hx, ha⟩ := (hv.same s1).row e
      have ls2 : ((partsD d).length : Int) ≤ hi := by
        unfold rowD3 at er
        simp only [Bool.and_eq_true, decide_eq_true_eq] at er
        exact er.2
      have ls : (partsD d).length ≤ 100000 := by
        have z := siz_len (partsD d)
        rw [siz_row e] at hs
        omega
      refine iteF ⟨_, rfl, a, xs, rfl, any_of (K := K) (rw_sq hx) (Same.refl _) fun J G gm wk => (fun D hD => ?_)⟩
      refine lc_it wk (fun i H' => Same H1 H' ∧ H' D = some (.lst (((partsD d).take i).map fun c => V.bl (isNmD c)))) ⟨same_new _ hD, by rw [upd_same]; rfl⟩ (fun i H' _ z => gm H' z.1) ?_ ?_
      · rintro i x H2 H3 hi2 ⟨s2, d2⟩ ⟨rfl, hxi⟩
        obtain ⟨c, hc, hcv⟩ := ha.at hxi
        have mc : mst c ≤ 100000 := by
          have z := mst_mem (List.mem_of_getElem? hc)
          rw [mst_row e] at hm
          omega
        refine ⟨rfl, _, rfl, x, isNmD c, rfl, nm_case (hcv.same s2) mc, fun H4 s4 => ?_⟩
        refine ⟨_, s4 _ _ d2, take_lt _ ls, same_put (s2.trans s4) _ hD, ?_⟩
        rw [upd_same, map_take _ hc]
      · rintro H2 ⟨s2, d2⟩
        rw [ha.len, List.take_length] at d2
        have e2 : (partsD d).map (fun c => V.bl (isNmD c)) = ((partsD d).map isNmD).map V.bl := by
          rw [List.map_map]
          rfl
        rw [e2] at d2
        refine ⟨D, _, rfl, .inl (.inl d2), _, rfl, ?_⟩
        have e3 : ((partsD d).map isNmD).all id = (partsD d).all isNmD := by
          rw [List.all_map]
          rfl
        rw [e3]
        cases ea : (partsD d).all isNmD with
        | false =>
          rw [ea] at k
          exact iteT (k _ (s1.trans s2))
        | true =>
          rw [ea] at k
          obtain ⟨z1, z2⟩ := strs_all ea
          generalize strsD (partsD d) = fs at *
          have ex : xs = fs.map V.str := by
            have y := ha
            rw [z1] at y
            clear ha k z1 z2 e2 e3 ea d2 hx s2 gm wk ls ls2
            induction fs generalizing xs with
            | nil => cases y; rfl
            | cons f fs ih =>
              cases y with
              | cons y1 y2 =>
                rw [y1.strI, ih _ y2]
                rfl
          rw [ex] at hx
          have lf : fs.length ≤ 100 := by
            rw [z1, List.length_map] at ls2
            omega
          refine iteF ⟨_, rfl, a, fs, rfl, rw_sq (hx.same s2), lf, _, rfl, a, _, rfl, rw_sq (hx.same s2), rfl, ?_⟩
          have e4 : decide (V.int (dis fs : Int) = V.int ((fs.map V.str).length : Int)) = decide fs.Nodup := by
            rw [List.length_map]
            by_cases n : fs.Nodup
            · rw [decide_eq_true n]
              exact decide_eq_true (by rw [(dis_full fs).mpr n])
            · rw [decide_eq_false n]
              exact decide_eq_false fun z => n ((dis_full fs).mp (Int.ofNat.inj (V.int.inj z)))
          show Q (V.bl (decide (V.int (dis fs : Int) = V.int ((fs.map V.str).length : Int)))) H2
          rw [e4]
          exact k _ (s1.trans s2)
end
end Fm

/-! ## K06C -/
set_option Elab.async false
set_option maxRecDepth 100000
set_option maxHeartbeats 4000000
namespace Fm
open PySem L2
/-- a def that promises nothing keeps it -/
theorem fn_no {P : Program} {w : World} {K : PySem.W.Frag} {mg : Str → Option Value} {base : Heap} {k : Nat} {f : Addr} {fd : FuncData} {ps : List Str} {sp : Sp} (h : ∀ vs H Q E, sp vs H Q E → False) : FnOk P w K mg base CX0 k f fd ps sp :=
  ⟨fun vs H Q E z => (h vs H Q E z).elim, fun _ _ _ H _ _ vs Q E _ _ _ _ z => (h vs H Q E z).elim⟩
theorem tupd_parts {d : PyData} (h : isRowD d = true) : tupd d = .tuple ((partsD d).map tupd) := by
  cases d with
  | list ds => exact congrArg PyData.tuple (tupdL_map ds)
  | tuple ds => exact congrArg PyData.tuple (tupdL_map ds)
  | _ => cases h
theorem tupd_flat {d : PyData} (h : isRowD d = false) : tupd d = d := by
  cases d <;> first | rfl | cases h
section
variable {P : Program} {w : World} {K : PySem.W.Frag} {mg : Str → Option Value} {base : Heap} {CS CB : Addr}
/-- as_tuples: the same tree, all its rows as new tuples -/
def spTup (n : Nat) : Sp := fun vs H Q _ => ∃ (F : Hp) (v : V) (d : PyData), vs = [v] ∧ Same F H ∧ Tp F v d ∧ dep d < n ∧ siz d ≤ 100000 ∧ ∀ v' F' H', Grow F H F' H' → Tp F' v' (tupd d) → Q v' H'
abbrev s_as_tuples : Stmt := topS 10
abbrev sc_as_tuplesN : List Str := ["thing", "part"]
abbrev ps_as_tuples : List Str := ["thing"]
theorem sc_as_tuples : FnScope sc_as_tuplesN ps_as_tuples (defScope s_as_tuples) := ⟨rfl, rfl, rfl, by decide +kernel, rfl, by decide +kernel, by decide +kernel⟩
theorem ok_as_tuples {f : Addr} {fd : FuncData} (F : Fun K "as_tuples" "as_tuples" s_as_tuples f fd) (T : Txt K mg CS) (hm : mg "as_tuples" = some (.ref f)) (hb : Binds K fd ps_as_tuples []) : ∀ n, FnOk P w K mg base CX0 n f fd ps_as_tuples (spTup n)
  | 0 => fn_no fun vs H Q E h => by
    obtain ⟨_, _, d, _, _, _, hd, _⟩ := h
    exact absurd hd (Nat.not_lt_zero _)
  | n + 1 => by
    have D_as_tuples : Df P w K mg base "as_tuples" n ps_as_tuples (spTup n) := ⟨f, fd, ok_as_tuples F T hm hb n, hm, F.kp, hb⟩
    refine F.ok sc_as_tuples (fun vs H Q E h => ?_) (fun cdv A outer s H vs Q E hr h => ?_)
    · obtain ⟨_, _, _, rfl, _⟩ := h
      rfl
    · obtain ⟨F0, v, d, rfl, sF, hv, hd, hz, k⟩ := h
      refine ⟨_, (pss_cons (ps_if (pt_val (pe_callB call_isiT (by rfl) T.n_isinstance (by decide +kernel) (pa_cons (pv 0) (pa_cons (pe_tup (pa_cons (pe_bltn (v := .ty "list") (by rfl) T.n_list (by decide +kernel) rfl) (pa_cons (pe_bltn (v := .ty "tuple") (by rfl) T.n_tuple (by decide +kernel) rfl) pa_nil))) pa_nil))))
    (pss_one (ps_ret (pe_callTy call_tuple_of (by rfl) T.n_tuple (by decide +kernel) (pa_cons (pe_lc (own := [("part", 1)]) (g := gName 1) (tt := tYes) (by rfl) sc_as_tuples.nd (pi_any (pv 0)) (blkOk_by (own := [("part", 1)]) (N := sc_as_tuplesN) (sc := defScope s_as_tuples) (by decide +kernel)) (fun _ _ _ _ _ => pg_name (i := 1) sc_as_tuples.nd rfl (Or.inl rfl)) (fun _ _ _ _ _ => pts_nil) (fun _ _ _ _ _ => (pe_d D_as_tuples hr (pa_cons (pv 1) pa_nil)))) pa_nil))))
    pss_nil)
  (pss_one (ps_ret (pv 0)))), ?_⟩
      refine ⟨_, rfl, (by show 2 ≤ sizeLine; decide), fun tp htp => ?_⟩
      have s1 : Same H (upd H tp (.tup [.ty "list", .ty "tuple"])) := same_new _ htp
      have sF1 := sF.trans s1
      have g1 : Grow F0 H F0 (upd H tp (.tup [.ty "list", .ty "tuple"])) := (Grow.refl sF).junk (sF.free htp) htp _
      refine ⟨_, tp, _, _, _, _, rfl, upd_same, clsLT, (hv.same sF1).ty, kitAny_row, _, rfl, ?_⟩
      cases e : isRowD d with
      | false =>
        rw [tupd_flat e] at k
        exact iteF ⟨_, rfl, k _ F0 _ g1 hv⟩
      | true =>
        obtain ⟨a, xs, rfl, hx, ha⟩ := hv.row e
        rw [dep_row e] at hd
        rw [siz_row e] at hz
        have ls := siz_len (partsD d)
        generalize upd H tp (.tup [.ty "list", .ty "tuple"]) = H1 at *
        refine iteT ⟨_, rfl, a, xs, rfl, any_of (K := K) (rw_sq hx) sF1 fun J G gm wk => (fun D hD => ?_)⟩
        refine lc_it wk (fun i H' => ∃ F' ys, Acc F0 H1 D F' H' ys ∧ TpAll F' ys (((partsD d).take i).map tupd)) ⟨F0, [], Acc.start sF1 hD, .nil⟩ (fun i H' _ z => by obtain ⟨F', ys, ac, _⟩ := z; exact gm H' (ac.g.ff.trans ac.g.fh)) ?_ ?_
        · rintro i x H2 H3 hi ⟨F2, ys, ac, ta⟩ ⟨rfl, hxi⟩
          obtain ⟨c, hc, hcv⟩ := ha.at hxi
          have mc := List.mem_of_getElem? hc
          have y1 := dep_mem mc
          have y2 := siz_mem mc
          refine ⟨rfl, _, rfl, F2, x, c, rfl, ac.g.fh, hcv.same ac.g.ff, by omega, by omega, fun y F3 H4 g ty => ?_⟩
          have ac2 := ac.then g
          refine ⟨ys, ac2.at_, ?_, F3, ys ++ [y], ac2.add _, ?_⟩
          · rw [ta.len, List.length_map, List.length_take]
            exact Nat.lt_of_le_of_lt (show min i (partsD d).length ≤ 100000 by omega) (by decide)
          · rw [map_take _ hc]
            exact (ta.same g.ff).snoc ty
        · rintro H2 ⟨F2, ys, ac, ta⟩
          rw [ha.len, List.take_length] at ta
          rw [tupd_parts e] at k
          refine ⟨D, ys, rfl, .inl ⟨.inl (.inl ac.at_), fun l hl => ?_⟩⟩
          exact k _ _ _ (g1.trans (ac.g.trans (Grow.new ac.g.fh _ hl))) (.tup upd_same (ta.same (same_new _ (ac.g.fh.free hl))))
def tableD : PyData → Bool
  | .tuple [a, b] => isNmD a && nmsD 1 4 b
  | _ => false
def nameT : PyData → Str
  | .tuple (.str s :: _) => s
  | _ => ""
def spIsTable : Sp := fun vs H Q _ => ∃ (v : V) (d : PyData), vs = [v] ∧ Tp H v d ∧ siz d ≤ 100000 ∧ mst d ≤ 100000 ∧ ∀ H', Same H H' → Q (.bl (tableD d)) H'
abbrev s_is_table : Stmt := topS 26
abbrev sc_is_tableN : List Str := ["thing"]
abbrev ps_is_table : List Str := ["thing"]
theorem sc_is_table : FnScope sc_is_tableN ps_is_table (defScope s_is_table) := ⟨rfl, rfl, rfl, by decide +kernel, rfl, by decide +kernel, by decide +kernel⟩
theorem ok_is_table {f : Addr} {fd : FuncData} (F : Fun K "is_table" "is_table" s_is_table f fd) (T : Txt K mg CS) (D_is_tuple : Df P w K mg base "is_tuple" 1 ps_is_tuple (spIsTuple K)) (D_is_name : Df P w K mg base "is_name" 1 ps_is_name (spIsName K)) (D_are_names : Df P w K mg base "are_names" 2 ps_are_names (spAreNames K)) :
    FnOk P w K mg base CX0 3 f fd ps_is_table spIsTable := by
  refine F.ok sc_is_table (fun vs H Q E h => ?_) (fun cdv A outer s H vs Q E hr h => ?_)
  · obtain ⟨_, _, rfl, _⟩ := h
    rfl
  · obtain ⟨v, d, rfl, hv, hz, hm, k⟩ := h
    refine ⟨_, (pss_one (ps_ret (pe_and (pe_d D_is_tuple (hr.mono (by decide)) (pa_cons (pv 0) (pa_cons pe_int pa_nil))) (pe_and (pe_d D_is_name (hr.mono (by decide)) (pa_cons (pe_ix ix_tup (pv 0) pe_int (fun _ _ => rfl)) pa_nil)) (pe_one (pe_d D_are_names (hr.mono (by decide)) (pa_cons (pe_ix ix_tup (pv 0) pe_int (fun _ _ => rfl)) (pa_cons pe_int (pa_cons (pe_gI T.g_MOST_FIELDS) pa_nil))))))))), ?_⟩
    refine ⟨_, rfl, v, d, 2, rfl, hv, _, rfl, ?_⟩
    cases e : tupD 2 d with
    | false =>
      have z : tableD d = false := by
        cases d with
        | tuple ds => match ds, e with
          | [], _ => rfl
          | [_], _ => rfl
          | [_, _], e => cases e
          | _ :: _ :: _ :: _, _ => rfl
        | _ => rfl
      rw [z] at k
      exact iteF (k _ (Same.refl _))
    | true =>
      obtain ⟨a, b, rfl⟩ : ∃ a b, d = .tuple [a, b] := by
        cases d with
        | tuple ds => match ds, e with
          | [], e => cases e
          | [_], e => cases e
          | [a, b], _ => exact ⟨a, b, rfl⟩
          | _ :: _ :: _ :: _, e => cases e
        | _ => cases e
      obtain ⟨p, xs, rfl, hp, ha⟩ := hv.tuple
      obtain ⟨x, hx, tx⟩ := ha.to (i := 0) rfl
      obtain ⟨y, hy, ty⟩ := ha.to (i := 1) rfl
      have ma := mst_mem (ds := [a, b]) (d := a) (by simp)
      have mb := mst_mem (ds := [a, b]) (d := b) (by simp)
      have zb := siz_mem (ds := [a, b]) (d := b) (by simp)
      have hm2 : mstL [a, b] ≤ 100000 := hm
      have hz2 : 1 + sizL [a, b] ≤ 100000 := hz
      refine iteT ⟨_, rfl, p, xs, 0, x, rfl, rfl, .inl (.inl hp), atI_nat hx, x, isNmD a, rfl, nm_case tx (by omega), fun H1 s1 => ⟨_, rfl, ?_⟩⟩
      have k2 : ∀ H', Same H H' → Q (.bl (isNmD a && nmsD 1 4 b)) H' := k
      cases ea : isNmD a with
      | false =>
        rw [ea] at k2
        exact iteF (k2 _ s1)
      | true =>
        rw [ea] at k2
        exact iteT ⟨_, rfl, p, xs, 1, y, rfl, rfl, .inl (.inl (s1 _ _ hp)), atI_nat hy, y, b, 1, 4, rfl, ty.same s1, by omega, by omega, by decide, fun H2 s2 => k2 _ (s1.trans s2)⟩
def firstBadT (names : List Str) : List PyData → Option Nat
  | [] => none
  | d :: ds => if tableD d = true ∧ nameT d ∉ names then (firstBadT (names ++ [nameT d]) ds).map (· + 1) else some 0
def shapeBad (d : PyData) : Option Int := if rowD3 1 5 d = true then (firstBadT [] (partsD d)).map Int.ofNat else some (-1)
def ErrAt (H : Hp) (i : Int) (E : Option Addr → Hp → Prop) : Prop := ∀ (d : Addr) (H' : Hp), Same H H' → H d = none → H' d = some (.xd [("at", .int i)]) → E (some d) H'
def spCheck (CB : Addr) : Sp := fun vs H Q E => ∃ (v : V) (d : PyData), vs = [v] ∧ Tp H v d ∧ siz d ≤ 100000 ∧ mst d ≤ 100000 ∧ (shapeBad d = none → ∀ H', Same H H' → Q .non H') ∧ ∀ i, shapeBad d = some i → ErrAt H i (E (.ref CB))
theorem first_ok {names : List Str} {d : PyData} {ds : List PyData} (h : tableD d = true) (n : nameT d ∉ names) : firstBadT names (d :: ds) = (firstBadT (names ++ [nameT d]) ds).map (· + 1) := by
  show (if _ then _ else _) = _
  rw [if_pos ⟨h, n⟩]
theorem first_bad {names : List Str} {d : PyData} {ds : List PyData} (h : ¬ (tableD d = true ∧ nameT d ∉ names)) : firstBadT names (d :: ds) = some 0 := by
  show (if _ then _ else _) = _
  rw [if_neg h]
theorem table_str {H : Hp} {v : V} {d : PyData} (hv : Tp H v d) (h : tableD d = true) : ∃ p r e, v = .ref p ∧ H p = some (.tup [.str (nameT d), r]) ∧ d = .tuple [.str (nameT d), e] ∧ Tp H r e := by
  cases d with
  | tuple ds =>
    match ds, h with
    | [], h => cases h
    | [_], h => cases h
    | _ :: _ :: _ :: _, h => cases h
    | [c, e], h =>
      have h2 : (isNmD c && nmsD 1 4 e) = true := h
      rw [Bool.and_eq_true] at h2
      obtain ⟨p, xs, rfl, hp, ha⟩ := hv.tuple
      cases c with
      | str s =>
        cases ha with
        | cons h1 h2 =>
          cases h2 with
          | cons h3 h4 =>
            cases h4
            rw [h1.strI] at hp
            exact ⟨p, _, e, rfl, hp, rfl, h3⟩
      | _ => cases h2.1
  | _ => cases h
abbrev s_check_tables : Stmt := topS 25
abbrev sc_check_tablesN : List Str := ["tables", "names", "at", "table"]
abbrev ps_check_tables : List Str := ["tables"]
theorem sc_check_tables : FnScope sc_check_tablesN ps_check_tables (defScope s_check_tables) := ⟨rfl, rfl, rfl, by decide +kernel, rfl, by decide +kernel, by decide +kernel⟩
theorem ok_check_tables {f : Addr} {fd : FuncData} (F : Fun K "check_tables" "check_tables" s_check_tables f fd) (T : Txt K mg CS) (X_BadShape : Xf P w K mg base "BadShape" CB "at") (D_is_row : Df P w K mg base "is_row" 1 ps_is_row (spIsRow K)) (D_is_table : Df P w K mg base "is_table" 3 ps_is_table spIsTable) :
    FnOk P w K mg base (L2.CX P w) 4 f fd ps_check_tables (spCheck CB) := by
  refine F.okX sc_check_tables (fun vs H Q E h => ?_) (fun cdv A outer s H vs Q E hr h => ?_)
  · obtain ⟨_, _, rfl, _⟩ := h
    rfl
  · obtain ⟨v, d, rfl, hv, hz, hm, kQ, kE⟩ := h
    obtain ⟨Tx, hno⟩ := X_BadShape.oex
    refine ⟨_, (pss_cons (ps_if (pt_not (pt_val (pe_d D_is_row (hr.mono (by decide)) (pa_cons (pv 0) (pa_cons pe_int (pa_cons (pe_gI T.g_MOST_TABLES) pa_nil))))))
    (pss_one (ps_rG X_BadShape (hr.mono (by decide)) (takes_of rfl rfl rfl rfl) (pe_un un_neg pe_int)))
    pss_nil)
  (pss_cons (ps_set (i := 1) sc_check_tables.nd rfl (Or.inl rfl) (pe_lst pa_nil))
  (pss_one (ps_for PassesOwn.leaving rfl (pi_enumA (by rfl) T.n_enumerate (pa_cons (pv 0) pa_nil)) (pg_tup (by rfl) (pgs_cons (pg_name (i := 2) sc_check_tables.nd rfl (Or.inl rfl)) (pgs_cons (pg_name (i := 3) sc_check_tables.nd rfl (Or.inl rfl)) pgs_nil)))
    (pss_cons (ps_if (PW.pt (pw_or (pt_not (pt_val (pe_d D_is_table (hr.mono (by decide)) (pa_cons (pv 3) pa_nil)))) (pw_or1 (pt_cmpR op_in_seq (pe_ix ix_tup (pv 3) pe_int (fun _ _ => rfl)) (pv 1) (by rfl)))))
      (pss_one (ps_rE X_BadShape (hr.mono (by decide)) (takes_of rfl rfl rfl rfl) (pv 2)))
      pss_nil)
    (pss_one (ps_expr (pe_bm PySem.F.plainAttrs_list PySem.F.slot_list_append PySem.F.type_list_append mt_append (pv 1) (pa_cons (pe_ix ix_tup (pv 3) pe_int (fun _ _ => rfl)) pa_nil))))))))), ?_⟩
    refine ⟨_, rfl, v, d, 1, 5, rfl, hv, fun H1 s1 => ⟨_, rfl, ?_⟩⟩
    cases er : rowD3 1 5 d with
    | false =>
      have z : shapeBad d = some (-1) := by
        unfold shapeBad
        rw [er]
        rfl
      refine iteT ⟨1, rfl, (by show 1 ≤ 1000; decide), fun a ha => init_read (v := .int (-1)) (Q := fun cls d H' => E cls d H') Tx hno ha fun dd hd => ?_⟩
      exact kE _ z dd _ (s1.trans (same_new _ hd)) (s1.free hd) upd_same
    | true =>
      have z : shapeBad d = (firstBadT [] (partsD d)).map Int.ofNat := by
        unfold shapeBad
        rw [er]
        rfl
      have e : isRowD d = true := by
        unfold rowD3 at er
        simp only [Bool.and_eq_true] at er
        exact er.1.1
      have l5 : (partsD d).length ≤ 5 := by
        unfold rowD3 at er
        simp only [Bool.and_eq_true, decide_eq_true_eq] at er
        have y := er.2
        omega
      obtain ⟨a, xs, rfl, hx, ha⟩ := (hv.same s1).row e
      rw [siz_row e] at hz
      rw [mst_row e] at hm
      rw [z] at kQ kE
      refine iteF ⟨Nat.zero_le _, fun l hl => ?_⟩
      refine ⟨_, rfl, a, xs, rfl, enum_of (K := K) (rw_sq hx) (same_new _ hl) fun J G gm wk => ?_⟩
      refine for_it wk (fun i σ H' => ∃ v2 v3, σ = [some (.ref a), some (.ref l), v2, v3] ∧ Same H1 H' ∧ H' l = some (.lst (((partsD d).take i).map fun c => V.str (nameT c))) ∧ firstBadT [] (partsD d) = (firstBadT (((partsD d).take i).map nameT) ((partsD d).drop i)).map (· + i))
        ⟨_, _, rfl, same_new _ hl, by rw [upd_same]; rfl, by simp⟩ (fun i σ H' _ z => by obtain ⟨_, _, _, z, _⟩ := z; exact gm H' z) ?_ ?_
      · rintro i x σ H2 H3 hi ⟨v2, v3, rfl, s2, d2, inv⟩ ⟨T0, x1, y, rfl, hT, rfl, e1, hy⟩
        obtain rfl : V.int (i : Nat) = x1 := Option.some.inj e1
        obtain ⟨c, hc, hcv⟩ := ha.at hy
        have mc := List.mem_of_getElem? hc
        have yz := siz_mem mc
        have ym := mst_mem mc
        have dr : (partsD d).drop i = c :: (partsD d).drop (i + 1) := by
          obtain ⟨hl, q⟩ := List.getElem?_eq_some_iff.mp hc
          rw [← q]
          exact List.drop_eq_getElem_cons hl
        rw [dr] at inv
        have s3 : Same H1 (upd H2 T0 (.tup [V.int (i : Nat), y])) := s2.trans (same_new _ hT)
        have nlT : l ≠ T0 := ne_of_none d2 hT
        have hT' : (upd H2 T0 (.tup [V.int (i : Nat), y])) T0 = some (.tup [V.int (i : Nat), y]) := upd_same
        have d3 : (upd H2 T0 (.tup [V.int (i : Nat), y])) l = some (.lst (((partsD d).take i).map fun c => V.str (nameT c))) := by rw [upd_ne nlT]; exact d2
        generalize upd H2 T0 (.tup [V.int (i : Nat), y]) = H4 at *
        refine ⟨T0, _, rfl, .inl (.inl hT'), rfl, _, _, rfl, _, _, rfl, rfl, ?_⟩
        have raise : ∀ {G : Hp}, Same H1 G → firstBadT [] (partsD d) = some i → ∀ dd, G dd = none → E (.ref CB) (some dd) (upd G dd (.xd [("at", .int (i : Nat))])) := fun sG q dd hd =>
          kE (i : Nat) (by rw [q]; rfl) dd _ (s1.trans (sG.trans (same_new _ hd))) (s1.free (sG.free hd)) upd_same
        refine ⟨_, rfl, y, c, rfl, hcv.same s3, by omega, by omega, fun H5 s5 => ⟨_, rfl, ?_⟩⟩
        cases et : tableD c with
        | false =>
          have q : firstBadT [] (partsD d) = some i := by
            rw [inv, first_bad (fun z => by rw [et] at z; cases z.1)]
            show some (0 + i) = some i
            rw [Nat.zero_add]
          exact iteT (iteT ⟨_, rfl, fun dd hd => raise (s3.trans s5) q dd hd⟩)
        | true =>
          obtain ⟨p, r, e2, rfl, hp, ec, hr2⟩ := table_str (hcv.same (s3.trans s5)) et
          have d5 := s5 _ _ d3
          refine iteF ⟨_, rfl, p, _, 0, .str (nameT c), rfl, rfl, .inl (.inl hp), rfl, _, rfl, l, _, rfl, .inl (.inl (.inl d5)), rfl, ?_, _, rfl, ?_⟩
          · rw [List.all_map]
            simp [flatV]
          · have ei : inV (V.str (nameT c)) (((partsD d).take i).map fun c => V.str (nameT c)) = decide (nameT c ∈ ((partsD d).take i).map nameT) := by
              have z := inV_str (nameT c) (((partsD d).take i).map nameT)
              rw [List.map_map] at z
              exact z
            show (if inV (V.str (nameT c)) (((partsD d).take i).map fun c => V.str (nameT c)) = true then _ else _)
            rw [ei]
            refine ifd (fun yes => ?_) fun no => ?_
            · have q : firstBadT [] (partsD d) = some i := by
                rw [inv, first_bad (fun z => z.2 yes)]
                show some (0 + i) = some i
                rw [Nat.zero_add]
              exact ⟨_, rfl, fun dd hd => raise (s3.trans s5) q dd hd⟩
            · refine ⟨_, rfl, .inl ⟨rfl, _, .inl (.inl d5)⟩, _, rfl, p, _, 0, .str (nameT c), rfl, rfl, .inl (.inl hp), rfl, l, _, _, rfl, rfl, d5, take_lt _ (by omega), ?_⟩
              refine ⟨_, _, rfl, same_put (s3.trans s5) _ hl, ?_, ?_⟩
              · rw [upd_same, map_take _ hc]
              · rw [inv, first_ok et no, map_take _ hc]
                cases firstBadT (((partsD d).take i).map nameT ++ [nameT c]) ((partsD d).drop (i + 1)) with
                | none => rfl
                | some j =>
                  show some (j + 1 + i) = some (j + (i + 1))
                  rw [Nat.add_assoc, Nat.add_comm 1 i]
      · rintro σ H2 ⟨v2, v3, rfl, s2, d2, inv⟩
        rw [ha.len, List.drop_length] at inv
        exact kQ (by rw [inv]; rfl) _ (s1.trans s2)
end
end Fm

/-! ## K06D -/
set_option Elab.async false
set_option maxRecDepth 100000
set_option maxHeartbeats 4000000
namespace Fm
open PySem L2
/-! ### a shape is made of anything -/
def shF (v : V) : List (Str × V) := [("tables", v)]
/-- a shape stands at x, with this tree of tables -/
def ShT (CS : Addr) (F : Hp) (x : Addr) (d : PyData) : Prop := ∃ dx v, F x = some (.ins CS dx (shF v)) ∧ Tp F v d
theorem ShT.same {CS : Addr} {F F' : Hp} {x : Addr} {d : PyData} (h : ShT CS F x d) (s : Same F F') : ShT CS F' x d := by
  obtain ⟨dx, v, h1, h2⟩ := h
  exact ⟨dx, v, s _ _ h1, h2.same s⟩
section
variable {P : Program} {w : World} {K : PySem.W.Frag} {mg : Str → Option Value} {base : Heap} {CS CB : Addr}
def spShInit (CS CB : Addr) : Sp := fun vs H Q E => ∃ (F : Hp) (x dx : Addr) (v : V) (d : PyData), vs = [.ref x, v] ∧ H x = some (.ins CS dx []) ∧ Same F H ∧ F x = none ∧ Tp F v d ∧ dep d < 40 ∧ siz d ≤ 100000 ∧ mst d ≤ 100000 ∧
  (∀ i, shapeBad d = some i → ErrAt H i (E (.ref CB))) ∧ (shapeBad d = none → ∀ tv F' H', Grow F H F' H' → Tp F' tv (tupd d) → Q .non (upd H' x (.ins CS dx (shF tv))))
abbrev s_Shape_init : Stmt := inClass (topS 23) 0
abbrev sc_Shape_initN : List Str := ["self", "tables"]
abbrev ps_Shape_init : List Str := ["self", "tables"]
theorem sc_Shape_init : FnScope sc_Shape_initN ps_Shape_init (defScope s_Shape_init) := ⟨rfl, rfl, rfl, by decide +kernel, rfl, by decide +kernel, by decide +kernel⟩
theorem ok_Shape_init {f : Addr} {fd : FuncData} (F : Fun K "__init__" "Shape.__init__" s_Shape_init f fd) (T : Txt K mg CS) (D_check_tables : DfX P w K mg base "check_tables" 4 ps_check_tables (spCheck CB)) (D_as_tuples : Df P w K mg base "as_tuples" 40 ps_as_tuples (spTup 40)) :
    FnOk P w K mg base (L2.CX P w) 41 f fd ps_Shape_init (spShInit CS CB) := by
  refine F.okX sc_Shape_init (fun vs H Q E h => ?_) (fun cdv A outer s H vs Q E hr h => ?_)
  · obtain ⟨_, _, _, _, _, rfl, _⟩ := h
    rfl
  · obtain ⟨F0, x, dx, v, d, rfl, hx, sF, fx, hv, hd, hz, hm, kE, kQ⟩ := h
    refine ⟨_, (pss_cons (ps_expr (pe_dE D_check_tables (hr.mono (by decide)) (takes_of rfl rfl rfl rfl) (pa_cons (pv 1) pa_nil)))
  (pss_one (ps_fld (pv 0) (pe_d D_as_tuples (hr.mono (by decide)) (pa_cons (pv 1) pa_nil)) rfl))), ?_⟩
    refine ⟨_, rfl, v, d, rfl, hv.same sF, hz, hm, fun e H1 s1 => ?_, fun i e => kE i e⟩
    refine ⟨_, rfl, F0, v, d, rfl, sF.trans s1, hv, hd, hz, fun tv F' H' g ht => ?_⟩
    have g2 : Grow F0 H F' H' := ⟨g.ff, g.fh, fun a o e1 e2 => g.hh a o e1 (s1 _ _ e2)⟩
    have hx2 := g2.same sF _ _ hx
    exact ⟨_, rfl, x, CS, dx, [], rfl, hx2, T.cl, T.nT, (by show 0 < 1000; decide), kQ e tv F' H' g2 ht⟩
/-- what a caller of Shape has to say -/
theorem shape_made {F0 H : Hp} {x dx : Addr} {v : V} {d : PyData} {R : Hp → Prop} {E : XK} (sF : Same F0 H) (hv : Tp F0 v d) (hd : dep d < 40) (hz : siz d ≤ 100000) (hm : mst d ≤ 100000) (nx : H x = none) (nd : H dx = none) (ne : dx ≠ x)
    (kE : ∀ i, shapeBad d = some i → ErrAt H i (E (.ref CB))) (kQ : shapeBad d = none → ∀ F' H', Grow F0 H F' H' → ShT CS F' x (tupd d) → R H') :
    spShInit CS CB [.ref x, v] (upd (upd H dx (.own x)) x (.ins CS dx [])) (fun z H' => z = .non ∧ R H') E := by
  have s1 : Same H (upd (upd H dx (.own x)) x (.ins CS dx [])) := fun a o e => by
    rw [upd_ne (ne_of_none e nx), upd_ne (ne_of_none e nd)]
    exact e
  have fx := sF.free nx
  refine ⟨F0, x, dx, v, d, rfl, upd_same, sF.trans s1, fx, hv, hd, hz, hm, fun i e dd H' s hn h => kE i e dd H' (s1.trans s) (s1.free hn) h, fun e tv F' H' g ht => ⟨rfl, ?_⟩⟩
  have xF' : F' x = none := (g.hh x _ fx upd_same).1
  have sX : Same F' (upd F' x (.ins CS dx (shF tv))) := same_new _ xF'
  refine kQ e _ _ ⟨g.ff.trans sX, same_upd g.fh x _, fun a o e1 e2 => ?_⟩ ⟨dx, tv, upd_same, ht.same sX⟩
  obtain ⟨z1, z2⟩ := g.hh a o e1 (s1 _ _ e2)
  have n := ne_of_none e2 nx
  rw [upd_ne n, upd_ne n]
  exact ⟨z1, z2⟩
end
end Fm

/-! ## FmName -/
set_option Elab.async false
set_option maxRecDepth 100000
set_option maxHeartbeats 4000000
/-! Names that are drawn: letters put together, a letter behind a stem until it is new. -/
namespace Fm
open PySem L2
theorem bag_junk {F H : Hp} {b p : Addr} (B : Bag F H b) (o : HO) (hp : H p = none) : Bag F (upd H p o) b := bag_same B (same_new o hp)
theorem bag_sub {F F1 H : Hp} {b : Addr} (s : Same F F1) (B : Bag F1 H b) : Bag F H b := by
  obtain ⟨h, fb, cl, ns, p, g, z, c, hh, e1, r⟩ := B
  exact ⟨s.trans h, s.free fb, cl, ns, p, g, z, c, hh, s.free e1, r⟩
theorem at_mem {α : Type} {xs : List α} {r : Int} (h0 : 0 ≤ r) (h1 : r < (xs.length : Int)) : ∃ v, atI xs r = some v ∧ v ∈ xs := by
  obtain ⟨n, rfl⟩ : ∃ n : Nat, r = (n : Int) := ⟨r.toNat, by omega⟩
  have h : n < xs.length := by omega
  exact ⟨xs[n], atI_nat (List.getElem?_eq_getElem h), List.getElem_mem h⟩
theorem nodup_le {α : Type} [DecidableEq α] : ∀ {l m : List α}, l.Nodup → (∀ x ∈ l, x ∈ m) → l.length ≤ m.length
  | [], _, _, _ => Nat.zero_le _
  | x :: r, m, hN, hs => by
    have hx := hs x List.mem_cons_self
    have q := List.nodup_cons.mp hN
    have ih := nodup_le (l := r) (m := m.erase x) q.2 fun y hy => by
      have n : y ≠ x := fun z => q.1 (by rw [← z]; exact hy)
      exact (List.mem_erase_of_ne n).mpr (hs y (List.mem_cons_of_mem _ hy))
    rw [List.length_erase_of_mem hx] at ih
    have pos : 0 < m.length := List.length_pos_of_mem hx
    rw [List.length_cons]
    omega
abbrev one (c : Nat) : Str := ⟨#[c]⟩
def ofL (cs : List Nat) : Str := ⟨cs.toArray⟩
theorem isNm_ofL {cs : List Nat} (h1 : 1 ≤ cs.length) (h2 : cs.length ≤ 8) (h3 : ∀ c ∈ cs, 97 ≤ c ∧ c ≤ 122) : isNm (ofL cs) = true := by
  have l : (ofL cs).length = cs.length := by simp [ofL, Str.length]
  unfold isNm
  rw [l, decide_eq_true h1, decide_eq_true h2]
  show (cs.toArray.toList.all fun c => decide (97 ≤ c) && decide (c ≤ 122)) = true
  rw [List.all_eq_true]
  intro c m
  have q := h3 c (by simpa using m)
  simp [q.1, q.2]
theorem isNm_inv {s : Str} (h : isNm s = true) : 1 ≤ s.cps.toList.length ∧ s.cps.toList.length ≤ 8 ∧ ∀ c ∈ s.cps.toList, 97 ≤ c ∧ c ≤ 122 := by
  unfold isNm at h
  simp only [Bool.and_eq_true, List.all_eq_true, decide_eq_true_eq] at h
  have l : s.cps.toList.length = s.length := by simp [Str.length]
  rw [l]
  exact ⟨h.1.1, h.1.2, h.2⟩
theorem str_ext {s t : Str} (h : s.cps.toList = t.cps.toList) : s = t := by
  obtain ⟨a⟩ := s
  obtain ⟨b⟩ := t
  have e : a = b := Array.ext' h
  rw [e]
theorem ofL_of (s : Str) : ofL s.cps.toList = s := str_ext (by simp [ofL])
theorem joinL_nil : ∀ cs : List Nat, TL.joinL [] (cs.map fun c => [c]) = cs
  | [] => rfl
  | [_] => rfl
  | c :: d :: r => by
    show [c] ++ ([] ++ TL.joinL [] ((d :: r).map fun c => [c])) = c :: d :: r
    rw [joinL_nil (d :: r)]
    rfl
theorem join_one (cs : List Nat) : Txt.join "" (cs.map one) = ofL cs := by
  refine str_ext ?_
  have e := TL.tl_join "" (cs.map one)
  rw [List.map_map] at e
  rw [TL.join_eq]
  exact e.trans (joinL_nil cs)
theorem cutS_to (n : Str) (k : Nat) : cutS n none (some (k : Int)) = ofL (n.cps.toList.take k) := by
  have l : n.cps.toList.length = n.length := by simp [Str.length]
  unfold cutS
  rw [HT.sIx_none, HT.sIx_nat, List.drop_zero, Nat.sub_zero]
  show (⟨(n.cps.toList.take (min k n.length)).toArray⟩ : Str) = ⟨(n.cps.toList.take k).toArray⟩
  rw [← l, ← List.take_eq_take_min]
theorem cutV_to (xs : List V) (k : Nat) : cutV xs none (some (k : Int)) = xs.take k := by
  unfold cutV
  rw [HT.sIx_none, HT.sIx_nat, List.drop_zero, Nat.sub_zero, ← List.take_eq_take_min]
theorem add_one {l : List Nat} {c : Nat} : ofL l ++ one c = ofL (l ++ [c]) := by
  refine str_ext ?_
  show (l.toArray ++ #[c]).toList = _
  simp [ofL]
/-- the word of the turn i: first w itself, then its stem with one letter after another -/
def wd (w : Str) (st : List Nat) (i : Nat) : Str := if i = 0 then w else ofL (st ++ [96 + i])
theorem wd_inj {w : Str} {st : List Nat} {i j : Nat} (hi : i ≠ 0) (hj : j ≠ 0) (h : wd w st i = wd w st j) : i = j := by
  unfold wd at h
  rw [if_neg hi, if_neg hj] at h
  have q : (st ++ [96 + i]).toArray = (st ++ [96 + j]).toArray := congrArg Str.cps h
  have q2 : st ++ [96 + i] = st ++ [96 + j] := by simpa using q
  have q3 := List.append_cancel_left q2
  injection q3 with q4 _
  omega
theorem wd_nm {w : Str} (h : isNm w = true) (i : Nat) (hi : i ≤ 26) : isNm (wd w (w.cps.toList.take 7) i) = true := by
  obtain ⟨h1, h2, h3⟩ := isNm_inv h
  unfold wd
  by_cases e : i = 0
  · rw [if_pos e]
    exact h
  · rw [if_neg e]
    refine isNm_ofL (by simp) ?_ fun c m => ?_
    · rw [List.length_append, List.length_take, List.length_singleton]
      omega
    · rcases List.mem_append.mp m with m | m
      · exact h3 c (List.mem_of_mem_take m)
      · rw [List.mem_singleton.mp m]
        omega
theorem wd_few {w : Str} {st : List Nat} {tk : List Str} {n : Nat} (h : ∀ j, j < n → wd w st j ∈ tk) : n ≤ tk.length + 1 := by
  have q := nodup_le (l := (List.range (n - 1)).map fun j => wd w st (j + 1)) (m := tk) ?_ ?_
  · rw [List.length_map, List.length_range] at q
    omega
  · refine List.Pairwise.map _ (R := (· ≠ ·)) (fun a b hab e => hab ?_) List.nodup_range
    have z := wd_inj (Nat.succ_ne_zero a) (Nat.succ_ne_zero b) e
    omega
  · intro x m
    obtain ⟨j, hj, rfl⟩ := List.mem_map.mp m
    have z := List.mem_range.mp hj
    exact h (j + 1) (by omega)
end Fm

/-! ## K06E -/
set_option Elab.async false
set_option maxRecDepth 100000
set_option maxHeartbeats 4000000
namespace Fm
open PySem L2
theorem pss_never {X : Cx} {b : List Stmt} : PSs X b tNever := ⟨fun _ _ _ _ _ _ h => False.elim h⟩
section
variable {P : Program} {w : World} {K : PySem.W.Frag} {mg : Str → Option Value} {base : Heap} {CS : Addr}
def spBag (K : PySem.W.Frag) : Sp := fun vs H Q _ => ∃ (a : Addr) (ns : List Int), vs = [.ref a] ∧ SqL K H a (ns.map V.int) ∧ ns.length ≤ 63 ∧ ∀ b H', Bag nil0 H' b → Q (.ref b) H'
abbrev s_l_bag : Stmt := topS 30
abbrev sc_l_bagN : List Str := ["_law_script"]
abbrev ps_l_bag : List Str := ["_law_script"]
theorem sc_l_bag : FnScope sc_l_bagN ps_l_bag (defScope s_l_bag) := ⟨rfl, rfl, rfl, by decide +kernel, rfl, by decide +kernel, by decide +kernel⟩
theorem ok_l_bag {f : Addr} {fd : FuncData} (F : Fun K "_law_bag" "_law_bag" s_l_bag f fd) (T : Txt K mg CS) : FnOk P w K mg base CX0 1 f fd ps_l_bag (spBag K) := by
  refine F.ok sc_l_bag (fun vs H Q E h => ?_) (fun cdv A outer s H vs Q E hr h => ?_)
  · obtain ⟨_, _, rfl, _⟩ := h
    rfl
  · obtain ⟨a, ns, rfl, hs, hl, k⟩ := h
    refine ⟨_, (pss_one (ps_ret (pe_lst (pa_cons (pe_callTy call_list_of (by rfl) T.n_list (by decide +kernel) (pa_cons (pe_slice sl_list (pv 0) po_none (po_some pe_int)) pa_nil)) (pa_cons pe_int (pa_cons pe_int (pa_cons pe_int (pa_cons pe_int (pa_cons pe_int pa_nil))))))))), ?_⟩
    refine ⟨_, rfl, _, rfl, a, _, rfl, hs, fun p hp => ?_⟩
    refine ⟨p, _, rfl, .inl (.inl (.inl upd_same)), fun c hc => ⟨by show 6 ≤ sizeLine; decide, fun b hb => ?_⟩⟩
    have ncb : c ≠ b := ne_of_none upd_same hb
    have e : cutV (ns.map V.int) none (some 63) = (ns.take 63).map V.int := by
      rw [List.map_take]
      exact cutV_to _ 63
    refine k b _ ⟨fun _ _ z => (by cases z), rfl, c, ns.take 63, 0, 0, 0, 0, 0, rfl, ncb, ?_, upd_same, by omega, by omega, by omega, by omega⟩
    rw [upd_ne ncb, upd_same, e]
def spName : Sp := fun vs H Q _ => ∃ (F : Hp) (b l : Addr) (tk : List Str), vs = [.ref b, .ref l] ∧ Bag F H b ∧ F l = some (.lst (tk.map V.str)) ∧ tk.length ≤ 20 ∧
  ∀ (n : Str) (H' : Hp), isNm n = true → n ∉ tk → Bag (upd F l (.lst ((tk ++ [n]).map V.str))) H' b → Q (.str n) H'
abbrev s_l_name : Stmt := topS 32
abbrev sc_l_nameN : List Str := ["_law_bag_here", "_law_taken", "_law_letters", "_law_word", "_law_k", "_law_stem"]
abbrev ps_l_name : List Str := ["_law_bag_here", "_law_taken"]
theorem sc_l_name : FnScope sc_l_nameN ps_l_name (defScope s_l_name) := ⟨rfl, rfl, rfl, by decide +kernel, rfl, by decide +kernel, by decide +kernel⟩
theorem ok_l_name {f : Addr} {fd : FuncData} (F : Fun K "_law_name" "_law_name" s_l_name f fd) (T : Txt K mg CS) (D_l_pick : Df P w K mg base "_law_pick" 1 ps_l_pick spPick) : FnOk P w K mg base CX0 2 f fd ps_l_name spName := by
  refine F.ok sc_l_name (fun vs H Q E h => ?_) (fun cdv A outer s H vs Q E hr h => ?_)
  · obtain ⟨_, _, _, _, rfl, _⟩ := h
    rfl
  · obtain ⟨F0, b, l, tk, rfl, B, hl, len, k⟩ := h
    refine ⟨_, (pss_cons (ps_set (i := 2) sc_l_name.nd rfl (Or.inr rfl) pe_str)
  (Evl.pss_cut (ps_if (pt_cmpR op_eq (pe_d D_l_pick (hr.mono (by decide)) (pa_cons (pv 0) (pa_cons pe_int pa_nil))) pe_int (nomark _))
    (pss_one (ps_set (i := 3) sc_l_name.nd rfl (Or.inl rfl) (pe_ix ix_list (pe_lst (pa_cons pe_str (pa_cons pe_str (pa_cons pe_str (pa_cons pe_str (pa_cons pe_str (pa_cons pe_str (pa_cons pe_str (pa_cons pe_str pa_nil))))))))) (pe_d D_l_pick (hr.mono (by decide)) (pa_cons (pv 0) (pa_cons pe_int pa_nil))) (fun _ _ => rfl))))
    (pss_one (ps_set (i := 3) sc_l_name.nd rfl (Or.inl rfl) (pe_join pe_str (pe_lc (own := [("_law_k", 4)]) (g := gName 4) (tt := tYes) (by rfl) sc_l_name.nd (pi_range1 (by rfl) T.n_range (pa_cons (pe_op op_add pe_int (pe_d D_l_pick (hr.mono (by decide)) (pa_cons (pv 0) (pa_cons pe_int pa_nil)))) pa_nil)) (blkOk_by (own := [("_law_k", 4)]) (N := sc_l_nameN) (sc := defScope s_l_name) (by decide +kernel)) (fun _ _ _ _ _ => pg_name (i := 4) sc_l_name.nd rfl (Or.inl rfl)) (fun _ _ _ _ _ => pts_nil) (fun _ _ _ _ _ => (pe_ix ix_str (pv 2) (pe_d D_l_pick (hr.mono (by decide)) (pa_cons (pv 0) (pa_cons pe_int pa_nil))) (fun _ _ => rfl))))))))
  (pss_cons (ps_set (i := 5) sc_l_name.nd rfl (Or.inl rfl) (pe_slice sl_str (pv 3) po_none (po_some pe_int)))
  (pss_cons (ps_for PassesOwn.never rfl (pi_range1 (by rfl) T.n_range (pa_cons pe_int pa_nil)) (pg_name (i := 4) sc_l_name.nd rfl (Or.inl rfl))
    (pss_cons (ps_if (pt_cmpR op_notIn_seq (pv 3) (pv 1) (by rfl))
      (pss_one ps_break)
      pss_nil)
    (pss_one (ps_set (i := 3) sc_l_name.nd rfl (Or.inl rfl) (pe_op op_add_str (pv 5) (pe_ix ix_str (pv 2) (pv 4) (fun _ _ => rfl)))))))
  (pss_cons (ps_expr (pe_bm PySem.F.plainAttrs_list PySem.F.slot_list_append PySem.F.type_list_append mt_append (pv 1) (pa_cons (pv 3) pa_nil)))
  (pss_one (ps_ret (pv 3)))))))), ?_⟩
    -- the word
    refine ⟨fun σ H' => ∃ (n : Str) (v : Option V), σ = [some (.ref b), some (.ref l), some (.str letters), some (.str n), v, none] ∧ isNm n = true ∧ Bag F0 H' b, ?_, ?_⟩
    · refine ⟨_, rfl, F0, b, 12, rfl, by decide, by decide, B, fun r H1 r0 r1 B1 => ⟨rfl, _, rfl, ifd (fun _ => ?_) fun _ => ?_⟩⟩
      · refine ⟨by show 8 ≤ sizeLine; decide, fun p hp => ?_⟩
        refine ⟨_, rfl, _, b, 8, rfl, by decide, by decide, B1.new _ hp, fun r H2 r0 r1 B2 => ?_⟩
        obtain ⟨v, hv, hm⟩ := at_mem (xs := (["end", "put", "scan", "none", "of", "same", "table", "block"] : List Str).map V.str) r0 r1
        obtain ⟨n, hn, rfl⟩ := List.mem_map.mp hm
        have good : ∀ n ∈ (["end", "put", "scan", "none", "of", "same", "table", "block"] : List Str), isNm n = true := by decide +kernel
        refine ⟨p, _, _, _, rfl, rfl, .inl (.inl (B2.fh _ _ upd_same)), hv, ?_⟩
        exact ⟨n, _, rfl, good n hn, bag_sub (fun a o e => by rw [upd_ne (ne_of_none (B1.fh _ _ e) hp)]; exact e) B2⟩
      · refine ⟨⟨_, rfl⟩, _, rfl, F0, b, 8, rfl, by decide, by decide, B1, fun r H2 r0 r1 B2 => ⟨_, _, rfl, rfl, _, rfl, by omega, by omega, fun D hD => ?_⟩⟩
        have fD : F0 D = none := B2.fh.free hD
        have nDl : D ≠ l := fun q => by rw [q, hl] at fD; cases fD
        have toF : ∀ o, Same F0 (upd F0 D o) := fun o a u e => by rw [upd_ne (ne_of_none e fD)]; exact e
        refine lc_range (lo := 0) (n := (1 + r).toNat) (fun i H' => ∃ cs : List Nat, cs.length = i ∧ (∀ c ∈ cs, 97 ≤ c ∧ c ≤ 122) ∧ Bag (upd F0 D (.lst ((cs.map one).map V.str))) H' b) ⟨[], rfl, fun _ m => (by cases m), B2.new _ hD⟩ ?_ ?_
        · rintro i H3 hi ⟨cs, rfl, hcs, B3⟩
          refine ⟨rfl, _, rfl, _, rfl, _, b, 26, rfl, by decide, by decide, B3, fun q H4 q0 q1 B4 => ?_⟩
          obtain ⟨c, hc, hm⟩ := at_mem (xs := letters.cps.toList) q0 (by rw [letters_list]; exact q1)
          rw [letters_list] at hm
          have hm2 := List.mem_range'_1.mp hm
          refine ⟨letters, _, c, rfl, rfl, by decide +kernel, hc, _, B4.fh _ _ upd_same, ?_, cs ++ [c], by simp, fun z m => ?_, ?_⟩
          · rw [List.length_map, List.length_map]
            exact Nat.lt_of_lt_of_le (show cs.length < 100 by omega) (by decide)
          · rcases List.mem_append.mp m with m | m
            · exact hcs z m
            · rw [List.mem_singleton.mp m]
              omega
          · have z := B4.put (.lst (((cs ++ [c]).map one).map V.str)) upd_same
            rw [upd_upd] at z
            have e : ((cs ++ [c]).map one).map V.str = (cs.map one).map V.str ++ [V.str (one c)] := by
              rw [List.map_append, List.map_append]
              rfl
            rw [e] at z ⊢
            exact z
        · rintro H3 ⟨cs, hl3, hcs, B3⟩
          refine ⟨_, D, cs.map one, rfl, rfl, .inl (.inl (.inl (B3.fh _ _ upd_same))), ?_, ?_⟩
          · have e : ((cs.map one).map (·.length)).sum = cs.length := by
              rw [List.map_map]
              clear hl3 hcs B3
              induction cs with
              | nil => rfl
              | cons c cs ih => rw [List.map_cons, List.sum_cons, ih, List.length_cons]; show 1 + cs.length = cs.length + 1; omega
            rw [e, List.length_map]
            show cs.length + cs.length * 0 ≤ 16777216
            omega
          · rw [join_one]
            exact ⟨ofL cs, _, rfl, isNm_ofL (by omega) (by omega) hcs, bag_sub (toF _) B3⟩
    · rintro σ H1 ⟨n, v, rfl, gn, B1⟩
      obtain ⟨n1, n2, n3⟩ := isNm_inv gn
      refine ⟨_, rfl, _, rfl, n, rfl, Nat.le_trans (isNm_len gn) (by decide), ?_⟩
      have cut : cutS n none (some 7) = ofL (n.cps.toList.take 7) := cutS_to n 7
      rw [cut]
      have hl1 := B1.fh _ _ hl
      refine ⟨26, rfl, by decide, by decide, for_range (lo := 0) (n := 26) (fun i σ H' => ∃ v, σ = [some (.ref b), some (.ref l), some (.str letters), some (.str (wd n (n.cps.toList.take 7) i)), v, some (.str (ofL (n.cps.toList.take 7)))] ∧ H' = H1 ∧ ∀ j, j < i → wd n (n.cps.toList.take 7) j ∈ tk) ⟨_, rfl, rfl, fun j z => absurd z (Nat.not_lt_zero _)⟩ ?_ ?_⟩
      · rintro i σ H' hi ⟨v, rfl, rfl, all⟩
        refine ⟨_, rfl, _, rfl, l, _, rfl, .inl (.inl (.inl hl1)), rfl, flat_strs _, _, rfl, ?_⟩
        rw [inV_str]
        refine ifn (fun new => ?_) fun old => ?_
        · refine ⟨_, rfl, .inl ⟨rfl, _, .inl (.inl hl1)⟩, _, rfl, l, _, _, rfl, rfl, hl1, by rw [List.length_map]; exact Nat.lt_of_le_of_lt len (by decide), _, rfl, ?_⟩
          refine k _ _ (wd_nm gn i (by omega)) new ?_
          have z := B1.put (.lst ((tk ++ [wd n (n.cps.toList.take 7) i]).map V.str)) hl
          rw [show (tk ++ [wd n (n.cps.toList.take 7) i]).map V.str = tk.map V.str ++ [V.str (wd n (n.cps.toList.take 7) i)] from by rw [List.map_append]; rfl] at z ⊢
          exact z
        · obtain ⟨c, hc, hm⟩ := at_mem (xs := letters.cps.toList) (r := 0 + (i : Int)) (by omega) (by rw [letters_list, List.length_range']; omega)
          have ec : c = 97 + i := by
            rw [letters_list, Int.zero_add] at hc
            have z := atI_nat (xs := List.range' 97 26) (j := i) (v := 97 + i) (by rw [List.getElem?_range' (by omega)]; simp)
            rw [hc] at z
            exact Option.some.inj z
          refine ⟨_, rfl, _, rfl, _, rfl, letters, _, c, rfl, rfl, by decide +kernel, hc, _, _, rfl, rfl, ?_, some (.int (0 + (i : Nat))), ?_, rfl, fun j hj => ?_⟩
          · have l7 : (ofL (n.cps.toList.take 7)).length ≤ 7 := by
              simp [ofL, Str.length]
              omega
            exact Nat.le_trans (Nat.add_le_add l7 (Nat.le_refl 1)) (show 8 ≤ sizeLine by decide)
          · have e : wd n (n.cps.toList.take 7) (i + 1) = ofL (n.cps.toList.take 7 ++ [97 + i]) := by
              unfold wd
              rw [if_neg (Nat.succ_ne_zero i), show 96 + (i + 1) = 97 + i by omega]
            rw [add_one, ec, e]
            rfl
          · rcases Nat.lt_succ_iff_lt_or_eq.mp hj with z | rfl
            · exact all j z
            · exact old
      · rintro σ H' ⟨v, rfl, rfl, all⟩
        exact absurd (wd_few (n := 26) all) (by omega)
end
end Fm

/-! ## K06F -/
set_option Elab.async false
set_option maxRecDepth 100000
set_option maxHeartbeats 4000000
namespace Fm
open PySem L2
theorem upd_none {F : Hp} {a b : Addr} {o : HO} (h : F a = none) (n : a ≠ b) : upd F b o a = none := by rw [upd_ne n]; exact h
theorem upd_comm {F : Hp} {a b : Addr} {x y : HO} (n : a ≠ b) : upd (upd F a x) b y = upd (upd F b y) a x := by
  funext c
  unfold upd
  by_cases h1 : c = b
  · subst h1
    rw [if_pos rfl, if_neg (Ne.symm n), if_pos rfl]
  · rw [if_neg h1]
    by_cases h2 : c = a
    · rw [if_pos h2, if_pos h2]
    · rw [if_neg h2, if_neg h2, if_neg h1]
theorem nodup_snoc {α : Type} {l : List α} {x : α} (h : l.Nodup) (n : x ∉ l) : (l ++ [x]).Nodup := by
  refine List.pairwise_append.mpr ⟨h, .cons (fun _ m => (by cases m)) .nil, fun a ha b hb e => ?_⟩
  rw [List.mem_singleton.mp hb] at e
  exact n (by rw [← e]; exact ha)
/-- a row of good names, none twice -/
structure Nms (fs : List Str) : Prop where
  lo : 1 ≤ fs.length
  hi : fs.length ≤ 4
  nm : ∀ f ∈ fs, isNm f = true
  nd : fs.Nodup
abbrev Tab := Str × List Str
structure TOk (t : Tab) : Prop where
  nm : isNm t.1 = true
  fs : Nms t.2
def tabD (b : Bool) (t : Tab) : PyData := .tuple [.str t.1, if b = true then .list (t.2.map PyData.str) else .tuple (t.2.map PyData.str)]
structure TsOk (ts : List Tab) : Prop where
  lo : 1 ≤ ts.length
  hi : ts.length ≤ 5
  ok : ∀ t ∈ ts, TOk t
  nd : (ts.map (·.1)).Nodup
/-- a list of tables stands at p -/
def TbAt (F : Hp) (p : Addr) (ts : List Tab) : Prop := ∃ xs, F p = some (.lst xs) ∧ TpAll F xs (ts.map (tabD false))
theorem TbAt.same {F F' : Hp} {p : Addr} {ts : List Tab} (h : TbAt F p ts) (s : Same F F') : TbAt F' p ts := by
  obtain ⟨xs, h1, h2⟩ := h
  exact ⟨xs, s _ _ h1, h2.same s⟩
section
variable {P : Program} {w : World} {K : PySem.W.Frag} {mg : Str → Option Value} {base : Heap} {CS : Addr}
def spTables : Sp := fun vs H Q _ => ∃ (F : Hp) (b : Addr), vs = [.ref b] ∧ Bag F H b ∧ ∀ (p : Addr) (F' H' : Hp) (ts : List Tab), Bag F' H' b → Same F F' → TsOk ts → TbAt F' p ts → Q (.ref p) H'
abbrev s_l_tables : Stmt := topS 34
abbrev sc_l_tablesN : List Str := ["_law_bag_here", "_law_taken", "_law_tables_here", "_law_k", "_law_name_here", "_law_fields", "_law_j"]
abbrev ps_l_tables : List Str := ["_law_bag_here"]
theorem sc_l_tables : FnScope sc_l_tablesN ps_l_tables (defScope s_l_tables) := ⟨rfl, rfl, rfl, by decide +kernel, rfl, by decide +kernel, by decide +kernel⟩
theorem ok_l_tables {f : Addr} {fd : FuncData} (F : Fun K "_law_tables" "_law_tables" s_l_tables f fd) (T : Txt K mg CS) (D_l_pick : Df P w K mg base "_law_pick" 1 ps_l_pick spPick) (D_l_name : Df P w K mg base "_law_name" 2 ps_l_name spName) :
    FnOk P w K mg base CX0 3 f fd ps_l_tables spTables := by
  refine F.ok sc_l_tables (fun vs H Q E h => ?_) (fun cdv A outer s H vs Q E hr h => ?_)
  · obtain ⟨_, _, rfl, _⟩ := h
    rfl
  · obtain ⟨F0, b, rfl, B, k⟩ := h
    refine ⟨_, (pss_cons (ps_set (i := 1) sc_l_tables.nd rfl (Or.inl rfl) (pe_lst pa_nil))
  (pss_cons (ps_set (i := 2) sc_l_tables.nd rfl (Or.inl rfl) (pe_lst pa_nil))
  (pss_cons (ps_for PassesOwn.never rfl (pi_range1 (by rfl) T.n_range (pa_cons (pe_ix ix_list (pe_lst (pa_cons pe_int (pa_cons pe_int (pa_cons pe_int (pa_cons pe_int (pa_cons pe_int pa_nil)))))) (pe_d D_l_pick (hr.mono (by decide)) (pa_cons (pv 0) (pa_cons pe_int pa_nil))) (fun _ _ => rfl)) pa_nil)) (pg_name (i := 3) sc_l_tables.nd rfl (Or.inl rfl))
    (pss_cons (ps_set (i := 4) sc_l_tables.nd rfl (Or.inl rfl) (pe_d D_l_name (hr.mono (by decide)) (pa_cons (pv 0) (pa_cons (pv 1) pa_nil))))
    (pss_cons (ps_set (i := 5) sc_l_tables.nd rfl (Or.inl rfl) (pe_lst pa_nil))
    (pss_cons (ps_for PassesOwn.never rfl (pi_range1 (by rfl) T.n_range (pa_cons (pe_op op_add pe_int (pe_d D_l_pick (hr.mono (by decide)) (pa_cons (pv 0) (pa_cons pe_int pa_nil)))) pa_nil)) (pg_name (i := 6) sc_l_tables.nd rfl (Or.inl rfl))
      (pss_one (ps_expr (pe_d D_l_name (hr.mono (by decide)) (pa_cons (pv 0) (pa_cons (pv 5) pa_nil))))))
    (pss_one (ps_expr (pe_bm PySem.F.plainAttrs_list PySem.F.slot_list_append PySem.F.type_list_append mt_append (pv 2) (pa_cons (pe_tup (pa_cons (pv 4) (pa_cons (pe_callTy call_tuple_of (by rfl) T.n_tuple (by decide +kernel) (pa_cons (pv 5) pa_nil)) pa_nil))) pa_nil))))))))
  (pss_one (ps_ret (pv 2)))))), ?_⟩
    refine ⟨Nat.zero_le _, fun t ht => ⟨Nat.zero_le _, fun p hp => ?_⟩⟩
    have ntp : t ≠ p := ne_of_none upd_same hp
    have fp : F0 p = none := B.fh.free (by rw [upd_ne (Ne.symm ntp)] at hp; exact hp)
    have ft : F0 t = none := B.fh.free ht
    have B2 := (B.new (.lst []) ht).new (.lst []) hp
    refine ⟨(by show 5 ≤ sizeLine; decide), fun m hm => ⟨_, rfl, _, b, 5, rfl, by decide, by decide, B2.new _ hm, fun r H1 r0 r1 B3 => ?_⟩⟩
    obtain ⟨v, hv, hvm⟩ := at_mem (xs := ([2, 1, 2, 3, 5] : List Int).map V.int) r0 r1
    obtain ⟨z, hz, rfl⟩ := List.mem_map.mp hvm
    have z15 : 1 ≤ z ∧ z ≤ 5 := by
      have all : ∀ z ∈ ([2, 1, 2, 3, 5] : List Int), 1 ≤ z ∧ z ≤ 5 := by decide
      exact all z hz
    have B4 := bag_sub (F := upd (upd F0 t (.lst [])) p (.lst [])) (fun a o e => by rw [upd_ne (ne_of_none (B2.fh _ _ e) hm)]; exact e) B3
    refine ⟨m, _, _, _, rfl, rfl, .inl (.inl (B3.fh _ _ upd_same)), hv, z, rfl, by omega, by omega, ?_⟩
    refine for_range (lo := 0) (n := z.toNat) (fun i σ H' => ∃ (G : Hp) (ts : List Tab) (xs : List V) (v3 v4 v5 v6 : Option V), σ = [some (.ref b), some (.ref t), some (.ref p), v3, v4, v5, v6] ∧ Same F0 G ∧ G t = none ∧ G p = none ∧
      Bag (upd (upd G t (.lst ((ts.map (·.1)).map V.str))) p (.lst xs)) H' b ∧ TpAll G xs (ts.map (tabD false)) ∧ ts.length = i ∧ (∀ u ∈ ts, TOk u) ∧ (ts.map (·.1)).Nodup) ?_ ?_ ?_
    · exact ⟨F0, [], [], _, _, _, _, rfl, Same.refl _, ft, fp, B4, .nil, rfl, fun _ m => (by cases m), .nil⟩
    · rintro i σ H2 hi ⟨G, ts, xs, v3, v4, v5, v6, rfl, sG, gt, gp, B5, dx, len, ok, nd⟩
      have lx : xs.length = i := by rw [dx.len, List.length_map]; exact len
      -- the table's name
      refine ⟨_, rfl, _, rfl, _, b, t, ts.map (·.1), rfl, B5, by rw [upd_ne ntp, upd_same], by rw [List.length_map]; omega, fun n H3 gn nn B6 => ?_⟩
      rw [upd_comm (Ne.symm ntp), upd_upd] at B6
      -- its fields
      refine ⟨Nat.zero_le _, fun q hq => ?_⟩
      have B7 := B6.new (.lst []) hq
      have q0 := B6.fh.free hq
      have nqt : q ≠ t := fun e => by rw [e, upd_ne ntp, upd_same] at q0; cases q0
      have nqp : q ≠ p := fun e => by rw [e, upd_same] at q0; cases q0
      have gq : G q = none := by rw [upd_ne nqp, upd_ne nqt] at q0; exact q0
      refine ⟨_, rfl, _, b, 4, rfl, by decide, by decide, B7, fun r H4 r0 r1 B8 => ⟨_, _, rfl, rfl, _, rfl, by omega, by omega, ?_⟩⟩
      refine for_range (lo := 0) (n := (1 + r).toNat) (fun j σ H' => ∃ (fs : List Str) (v6 : Option V), σ = [some (.ref b), some (.ref t), some (.ref p), some (.int (0 + (i : Nat))), some (.str n), some (.ref q), v6] ∧ fs.length = j ∧ (∀ f ∈ fs, isNm f = true) ∧ fs.Nodup ∧
        Bag (upd (upd (upd G t (.lst ((ts.map (·.1) ++ [n]).map V.str))) p (.lst xs)) q (.lst (fs.map V.str))) H' b) ?_ ?_ ?_
      · exact ⟨[], _, rfl, rfl, fun _ m => (by cases m), .nil, B8⟩
      · rintro j σ H5 hj ⟨fs, v6, rfl, lf, gf, nf, B9⟩
        refine ⟨_, rfl, _, rfl, _, b, q, fs, rfl, B9, upd_same, by omega, fun f H6 gf2 nf2 B10 => ?_⟩
        rw [upd_upd] at B10
        refine ⟨fs ++ [f], _, rfl, by rw [List.length_append, lf]; rfl, fun g m => ?_, ?_, B10⟩
        · rcases List.mem_append.mp m with m | m
          · exact gf g m
          · rw [List.mem_singleton.mp m]
            exact gf2
        · exact nodup_snoc nf nf2
      · rintro σ H5 ⟨fs, v6, rfl, lf, gf, nf, B9⟩
        -- the table
        have hq5 := B9.fh _ _ upd_same
        have hp5 : H5 p = some (.lst xs) := B9.fh _ _ (by rw [upd_ne (Ne.symm nqp), upd_same])
        refine ⟨_, rfl, .inl ⟨rfl, _, .inl (.inl hp5)⟩, _, rfl, _, rfl, q, _, rfl, .inl ⟨.inl (.inl hq5), fun u hu => ⟨(by show 2 ≤ sizeLine; decide), fun e he => ?_⟩⟩⟩
        have B11 := (B9.new (.tup (fs.map V.str)) hu).new (.tup [.str n, .ref u]) he
        have u0 := B9.fh.free hu
        have nup : u ≠ p := fun z => by rw [z] at u0; rw [upd_ne (Ne.symm nqp), upd_same] at u0; cases u0
        have nut : u ≠ t := fun z => by rw [z] at u0; rw [upd_ne (Ne.symm nqt), upd_ne ntp, upd_same] at u0; cases u0
        have nuq : u ≠ q := fun z => by rw [z] at u0; rw [upd_same] at u0; cases u0
        have gu : G u = none := by rw [upd_ne nuq, upd_ne nup, upd_ne nut] at u0; exact u0
        have hu2 : (upd H5 u (.tup (fs.map V.str))) u = some (.tup (fs.map V.str)) := upd_same
        have neu : e ≠ u := fun z => by rw [z, hu2] at he; cases he
        have he5 : H5 e = none := by rw [upd_ne neu] at he; exact he
        have e0 := B9.fh.free he5
        have nep : e ≠ p := fun z => by rw [z] at e0; rw [upd_ne (Ne.symm nqp), upd_same] at e0; cases e0
        have net : e ≠ t := fun z => by rw [z] at e0; rw [upd_ne (Ne.symm nqt), upd_ne ntp, upd_same] at e0; cases e0
        have neq : e ≠ q := fun z => by rw [z] at e0; rw [upd_same] at e0; cases e0
        have ge : G e = none := by rw [upd_ne neq, upd_ne nep, upd_ne net] at e0; exact e0
        refine ⟨p, _, _, rfl, rfl, by rw [upd_ne (Ne.symm nep), upd_ne (Ne.symm nup)]; exact hp5, Nat.lt_of_le_of_lt (show xs.length ≤ 100 by omega) (by decide), ?_⟩
        have B12 := B11.put (.lst (xs ++ [.ref e])) (o := .lst xs) (l := p) (by rw [upd_ne (Ne.symm nep), upd_ne (Ne.symm nup), upd_ne (Ne.symm nqp), upd_same])
        rw [upd_comm nep, upd_comm nup, upd_comm nqp, upd_upd, upd_comm (a := p) (b := q) (Ne.symm nqp), upd_comm (a := p) (b := u) (Ne.symm nup), upd_comm (a := p) (b := e) (Ne.symm nep),
          upd_comm (a := t) (b := q) (Ne.symm nqt), upd_comm (a := t) (b := u) (Ne.symm nut), upd_comm (a := t) (b := e) (Ne.symm net)] at B12
        have sG2 : Same G (upd (upd (upd G q (.lst (fs.map V.str))) u (.tup (fs.map V.str))) e (.tup [.str n, .ref u])) := fun a o z => by
          rw [upd_ne (ne_of_none z ge), upd_ne (ne_of_none z gu), upd_ne (ne_of_none z gq)]
          exact z
        refine ⟨_, ts ++ [(n, fs)], xs ++ [.ref e], _, _, _, _, rfl, sG.trans sG2, upd_none (upd_none (upd_none gt (Ne.symm nqt)) (Ne.symm nut)) (Ne.symm net), upd_none (upd_none (upd_none gp (Ne.symm nqp)) (Ne.symm nup)) (Ne.symm nep), ?_, ?_, ?_, ?_, ?_⟩
        · rw [List.map_append]
          exact B12
        · rw [List.map_append]
          exact (dx.same sG2).snoc (.tup upd_same (.cons (.str n) (.cons (.tup (by rw [upd_ne (Ne.symm neu), upd_same]) (TpAll.strs fs)) .nil)))
        · rw [List.length_append, len]
          rfl
        · intro w hw
          rcases List.mem_append.mp hw with hw | hw
          · exact ok w hw
          · rw [List.mem_singleton.mp hw]
            exact ⟨gn, (show 1 ≤ fs.length by omega), (show fs.length ≤ 4 by omega), gf, nf⟩
        · rw [List.map_append]
          exact nodup_snoc nd nn
    · rintro σ H2 ⟨G, ts, xs, v3, v4, v5, v6, rfl, sG, gt, gp, B5, dx, len, ok, nd⟩
      refine ⟨_, rfl, ?_⟩
      refine k p _ H2 ts B5 (fun a o e => ?_) ⟨by omega, by omega, ok, nd⟩ ⟨xs, upd_same, dx.same (fun a o e => ?_)⟩
      · rw [upd_ne (ne_of_none e fp), upd_ne (ne_of_none e ft)]
        exact sG a o e
      · rw [upd_ne (ne_of_none e gp), upd_ne (ne_of_none e gt)]
        exact e
end
end Fm

/-! ## K06H -/
set_option Elab.async false
set_option maxRecDepth 100000
set_option maxHeartbeats 4000000
namespace Fm
open PySem L2
theorem ifF {c : Bool} {A B : Prop} (hc : c = false) (h : B) : if c = true then A else B := by
  rw [hc]
  exact iteF h
theorem ifT {c : Bool} {A B : Prop} (hc : c = true) (h : A) : if c = true then A else B := by
  rw [hc]
  exact iteT h
theorem ix_sq {K : PySem.W.Frag} {H : Hp} {a : Addr} {xs : List V} {i : Int} {v : V} {Q : VK} (h : Sq K H a xs) (hv : atI xs i = some v) (q : Q v H) : rIx K (.ref a) (.int i) H Q := by
  rcases h with h | h
  · exact .inl ⟨a, xs, i, v, rfl, rfl, h, hv, q⟩
  · exact .inr (.inl ⟨a, xs, i, v, rfl, rfl, h, hv, q⟩)
section
variable {P : Program} {w : World} {K : PySem.W.Frag} {mg : Str → Option Value} {base : Heap} {CS CB : Addr}
/-- the keys and values of the two dicts -/
def kvsD (l : Addr) (b : Bool) : List (Key × V) := if b = true then [(Sum.inr "a", .ref l)] else []
theorem dl_kvs {H : Hp} {a : Addr} {b : Bool} (h : Dl H a b) : ∃ l, H a = some (.dK (kvsD l b)) ∧ (b = true → H l = some (.lst [.int 1])) := by
  cases b with
  | true =>
    obtain ⟨l, h1, h2⟩ := (show ∃ l, H a = some (.dK [(Sum.inr "a", .ref l)]) ∧ H l = some (.lst [.int 1]) from h)
    exact ⟨l, h1, fun _ => h2⟩
  | false => exact ⟨0, h, fun z => nomatch z⟩
/-- two trees that are the same -/
def spAlike (n : Nat) : Sp := fun vs H Q _ => ∃ (v u : V) (d : PyData), vs = [v, u] ∧ Tp H v d ∧ Tp H u d ∧ dep d < n ∧ siz d ≤ 100000 ∧ ∀ H', Same H H' → Q (.bl true) H'
abbrev s_l_alike : Stmt := topS 36
abbrev sc_l_alikeN : List Str := ["_law_one", "_law_other", "_law_k", "_law_key"]
abbrev ps_l_alike : List Str := ["_law_one", "_law_other"]
theorem sc_l_alike : FnScope sc_l_alikeN ps_l_alike (defScope s_l_alike) := ⟨rfl, rfl, rfl, by decide +kernel, rfl, by decide +kernel, by decide +kernel⟩
theorem ok_l_alike {f : Addr} {fd : FuncData} (F : Fun K "_law_alike" "_law_alike" s_l_alike f fd) (T : Txt K mg CS) (hm : mg "_law_alike" = some (.ref f)) (hb : Binds K fd ps_l_alike []) : ∀ n, FnOk P w K mg base CX0 n f fd ps_l_alike (spAlike n)
  | 0 => fn_no fun vs H Q E h => by
    obtain ⟨_, _, d, _, _, _, hd, _⟩ := h
    exact absurd hd (Nat.not_lt_zero _)
  | n + 1 => by
    have D_l_alike : Df P w K mg base "_law_alike" n ps_l_alike (spAlike n) := ⟨f, fd, ok_l_alike F T hm hb n, hm, F.kp, hb⟩
    refine F.ok sc_l_alike (fun vs H Q E h => ?_) (fun cdv A outer s H vs Q E hr h => ?_)
    · obtain ⟨_, _, _, rfl, _⟩ := h
      rfl
    · obtain ⟨v, u, d, rfl, hv, hu, hd, hz, k⟩ := h
      refine ⟨_, (pss_cons (ps_if (pt_val (pe_callB call_isiT (by rfl) T.n_isinstance (by decide +kernel) (pa_cons (pv 0) (pa_cons (pe_tup (pa_cons (pe_bltn (v := .ty "list") (by rfl) T.n_list (by decide +kernel) rfl) (pa_cons (pe_bltn (v := .ty "tuple") (by rfl) T.n_tuple (by decide +kernel) rfl) pa_nil))) pa_nil))))
    (pss_cons (ps_if (PW.pt (pw_or (pt_cmpR op_ne (pe_callB call_isi (by rfl) T.n_isinstance (by decide +kernel) (pa_cons (pv 0) (pa_cons (pe_bltn (v := .ty "list") (by rfl) T.n_list (by decide +kernel) rfl) pa_nil))) (pe_callB call_isi (by rfl) T.n_isinstance (by decide +kernel) (pa_cons (pv 1) (pa_cons (pe_bltn (v := .ty "list") (by rfl) T.n_list (by decide +kernel) rfl) pa_nil))) (nomark _)) (pw_or1 (pt_cmpR op_ne (pe_callB call_isi (by rfl) T.n_isinstance (by decide +kernel) (pa_cons (pv 0) (pa_cons (pe_bltn (v := .ty "tuple") (by rfl) T.n_tuple (by decide +kernel) rfl) pa_nil))) (pe_callB call_isi (by rfl) T.n_isinstance (by decide +kernel) (pa_cons (pv 1) (pa_cons (pe_bltn (v := .ty "tuple") (by rfl) T.n_tuple (by decide +kernel) rfl) pa_nil))) (nomark _)))))
      (pss_one (ps_ret pe_bl))
      pss_nil)
    (pss_cons (ps_if (pt_cmpR op_ne (pe_callB call_len_seq (by rfl) T.n_len (by decide +kernel) (pa_cons (pv 0) pa_nil)) (pe_callB call_len_seq (by rfl) T.n_len (by decide +kernel) (pa_cons (pv 1) pa_nil)) (nomark _))
      (pss_one (ps_ret pe_bl))
      pss_nil)
    (pss_one (ps_ret (pe_callB (cr_all (by rfl)) (by rfl) T.n_all (by decide +kernel) (pa_cons (pe_lc (own := [("_law_k", 2)]) (g := gName 2) (tt := tYes) (by rfl) sc_l_alike.nd (pi_range1 (by rfl) T.n_range (pa_cons (pe_callB call_len_seq (by rfl) T.n_len (by decide +kernel) (pa_cons (pv 0) pa_nil)) pa_nil)) (blkOk_by (own := [("_law_k", 2)]) (N := sc_l_alikeN) (sc := defScope s_l_alike) (by decide +kernel)) (fun _ _ _ _ _ => pg_name (i := 2) sc_l_alike.nd rfl (Or.inl rfl)) (fun _ _ _ _ _ => pts_nil) (fun _ _ _ _ _ => (pe_d D_l_alike hr (pa_cons (pe_ix (ixK_seq (K := K)) (pv 0) (pv 2) (fun _ _ => rfl)) (pa_cons (pe_ix (ixK_seq (K := K)) (pv 1) (pv 2) (fun _ _ => rfl)) pa_nil))))) pa_nil))))))
    pss_nil)
  (pss_cons (ps_if (PW.pt (pw_and (pt_val (pe_callB call_isi (by rfl) T.n_isinstance (by decide +kernel) (pa_cons (pv 0) (pa_cons (pe_bltn (v := .ty "dict") (by rfl) T.n_dict (by decide +kernel) rfl) pa_nil)))) (pw_and1 (pt_val (pe_callB call_isi (by rfl) T.n_isinstance (by decide +kernel) (pa_cons (pv 1) (pa_cons (pe_bltn (v := .ty "dict") (by rfl) T.n_dict (by decide +kernel) rfl) pa_nil)))))))
    (pss_cons (ps_if (pt_cmpR op_ne (pe_callB call_lenD (by rfl) T.n_len (by decide +kernel) (pa_cons (pv 0) pa_nil)) (pe_callB call_lenD (by rfl) T.n_len (by decide +kernel) (pa_cons (pv 1) pa_nil)) (nomark _))
      (pss_one (ps_ret pe_bl))
      pss_nil)
    (pss_one (ps_ret (pe_lock (pe_callB (cr_all (by rfl)) (by rfl) T.n_all (by decide +kernel) (pa_cons (pe_lc (own := [("_law_key", 3)]) (g := gName 3) (tt := tYes) (by rfl) sc_l_alike.nd (pi_keys (pv 0)) (blkOk_by (own := [("_law_key", 3)]) (N := sc_l_alikeN) (sc := defScope s_l_alike) (by decide +kernel)) (fun _ _ _ _ _ => pg_name (i := 3) sc_l_alike.nd rfl (Or.inl rfl)) (fun _ _ _ _ _ => pts_nil) (fun _ _ _ _ _ => (pe_and (pe_cmp (pc_din (Nat.lt_of_le_of_lt (Nat.add_le_add_left (by decide) _) hr.units) (pv 3) (pv 1)) (by rfl)) (pe_one (pe_d D_l_alike hr (pa_cons (pe_dget (Nat.lt_of_le_of_lt (Nat.add_le_add_left (by decide) _) hr.units) (pv 0) (pv 3) (fun _ _ => rfl)) (pa_cons (pe_dget1 (Nat.lt_of_le_of_lt (Nat.add_le_add_left (by decide) _) hr.units) (pv 1) (pv 3) ⟨rfl, rfl, rfl, rfl⟩) pa_nil))))))) pa_nil))))))
    pss_nil)
  (pss_one (ps_ret (pe_and (pe_cmpR op_eq (pe_callB call_isi (by rfl) T.n_isinstance (by decide +kernel) (pa_cons (pv 0) (pa_cons (pe_bltn (v := .ty "bool") (by rfl) T.n_bool (by decide +kernel) rfl) pa_nil))) (pe_callB call_isi (by rfl) T.n_isinstance (by decide +kernel) (pa_cons (pv 1) (pa_cons (pe_bltn (v := .ty "bool") (by rfl) T.n_bool (by decide +kernel) rfl) pa_nil))) (nomark _)) (pe_one (pe_cmpR op_eq (pv 0) (pv 1) (nomark _)))))))), ?_⟩
      refine ⟨_, rfl, (by show 2 ≤ sizeLine; decide), fun tp htp => ?_⟩
      have s1 : Same H (upd H tp (.tup [.ty "list", .ty "tuple"])) := same_new _ htp
      have hv1 := hv.same s1
      have hu1 := hu.same s1
      have up : (upd H tp (.tup [.ty "list", .ty "tuple"])) tp = some (.tup [.ty "list", .ty "tuple"]) := upd_same
      generalize upd H tp (.tup [.ty "list", .ty "tuple"]) = H1 at *
      have ty1 := hv1.ty (K := K)
      have ty2 := hu1.ty (K := K)
      have kt : ∀ {n : String}, n ∈ ["str", "int", "bool", "list", "tuple", "dict"] → PySem.W.kitOne K (.type (tyD d)) (.type n) = some (isD n d) := fun m => kit_ty (kit_d m)
      have same : ∀ v : V, (!decide (v = v)) = false := fun v => by simp
      refine ⟨_, tp, _, _, _, _, rfl, up, clsLT, ty1, kitAny_row, _, rfl, ?_⟩
      cases er : isRowD d with
      | true =>
        obtain ⟨a, xs, rfl, hx, ha⟩ := hv1.row er
        obtain ⟨c, ys, rfl, hy, hc⟩ := hu1.row er
        have l1 := ha.len
        have l2 := hc.len
        rw [dep_row er] at hd
        rw [siz_row er] at hz
        have ls := siz_len (partsD d)
        refine iteT ?_
        refine ⟨_, rfl, _, _, _, _, _, rfl, .ty _, ty1, kt (by simp), _, rfl, _, _, _, _, _, rfl, .ty _, ty2, kt (by simp), rfl, _, rfl, ifF (same _) ?_⟩
        refine ⟨_, rfl, _, _, _, _, _, rfl, .ty _, ty1, kt (by simp), _, rfl, _, _, _, _, _, rfl, .ty _, ty2, kt (by simp), rfl, _, rfl, ifF (same _) ?_⟩
        refine ⟨_, rfl, a, xs, rfl, rw_sq hx, _, rfl, c, ys, rfl, rw_sq hy, rfl, _, rfl, ifF (by rw [l1, l2]; exact same _) ?_⟩
        refine ⟨_, rfl, a, xs, rfl, rw_sq hx, _, rfl, by omega, by omega, fun D hD => ?_⟩
        refine lc_range (lo := 0) (n := xs.length) (fun i H' => Same H1 H' ∧ H' D = some (.lst ((xs.take i).map fun _ => V.bl true))) ⟨same_new _ hD, by rw [upd_same]; rfl⟩ ?_ ?_
        · rintro i H2 hi ⟨s2, d2⟩
          have hx1 : xs[i]? = some xs[i] := List.getElem?_eq_getElem hi
          have hy1 : ys[i]? = some (ys[i]'(by omega)) := List.getElem?_eq_getElem _
          obtain ⟨d1, e1, q1⟩ := ha.at hx1
          obtain ⟨d3, e3, q3⟩ := hc.at hy1
          obtain rfl : d1 = d3 := by rw [e1] at e3; exact Option.some.inj e3
          have md := List.mem_of_getElem? e1
          have y1 := dep_mem md
          have y2 := siz_mem md
          refine ⟨rfl, _, rfl, _, rfl, ix_sq (rw_sq (hx.same s2)) (by rw [Int.zero_add]; exact atI_nat hx1) ?_⟩
          refine ⟨_, rfl, _, rfl, ix_sq (rw_sq (hy.same s2)) (by rw [Int.zero_add]; exact atI_nat hy1) ?_⟩
          refine ⟨_, _, d1, rfl, q1.same s2, q3.same s2, by omega, by omega, fun H4 s4 => ?_⟩
          refine ⟨_, s4 _ _ d2, take_lt _ (by omega), same_put (s2.trans s4) _ hD, ?_⟩
          rw [upd_same, map_take _ hx1]
        · rintro H2 ⟨s2, d2⟩
          rw [List.take_length, bl_map] at d2
          refine ⟨D, _, rfl, .inl (.inl d2), ?_⟩
          have e3 : (xs.map fun _ => true).all id = true := by
            rw [List.all_map]
            simp
          rw [e3]
          exact k _ (s1.trans s2)
      | false =>
        refine iteF ⟨_, rfl, _, _, _, _, _, rfl, .ty _, ty1, kt (by simp), _, rfl, ?_⟩
        cases d with
        | list _ => cases er
        | tuple _ => cases er
        | dict kvs =>
          cases hv1 with
          | @dct a b hb =>
          obtain ⟨c, rfl, hcb⟩ := hu1.dict
          obtain ⟨l, ha, hl⟩ := dl_kvs hb
          obtain ⟨l2, hc, hl2⟩ := dl_kvs hcb
          have ls : ∀ l : Addr, (kvsD l b).length ≤ 1 := fun l => by cases b <;> simp [kvsD]
          have le : (kvsD l b).length = (kvsD l2 b).length := by cases b <;> rfl
          refine iteT ⟨_, rfl, _, _, _, _, _, rfl, .ty _, ty2, kt (by simp), _, rfl, iteT ?_⟩
          refine ⟨_, rfl, a, _, rfl, ha, _, rfl, c, _, rfl, hc, rfl, _, rfl, ifF (by rw [le]; exact same _) ?_⟩
          refine ⟨a, _, ha, trivial, fun od => ?_⟩
          have hL : (upd H1 a (.frz od (.dK (kvsD l b)))) a = some (.frz od (.dK (kvsD l b))) := upd_same
          have back : ∀ H', Same (upd H1 a (.frz od (.dK (kvsD l b)))) H' → Same H (upd H' a (.dK (kvsD l b))) := fun H' q b' o e => by
            by_cases z : b' = a
            · rw [z, upd_same]
              rw [← ha, ← s1 _ _ e, z]
            · rw [upd_ne z]
              exact q b' o (by rw [upd_ne z]; exact s1 b' o e)
          have rdc : Rd (upd H1 a (.frz od (.dK (kvsD l b)))) c (.dK (kvsD l2 b)) := by
            by_cases z : c = a
            · rw [z, ha] at hc
              rw [z, ← HO.dK.inj (Option.some.inj hc)]
              exact .inr ⟨od, upd_same⟩
            · exact .inl (by rw [upd_ne z]; exact hc)
          have lists : ∀ l : Addr, H1 l = some (.lst [.int 1]) → (upd H1 a (.frz od (.dK (kvsD l b)))) l = some (.lst [.int 1]) := fun l e => by
            rw [upd_ne fun z => by rw [z, ha] at e; cases e]
            exact e
          have lists2 : ∀ m : Addr, H1 m = some (.lst [.int 1]) → (upd H1 a (.frz od (.dK (kvsD l b)))) m = some (.lst [.int 1]) := fun m e => by
            rw [upd_ne fun z => by rw [z, ha] at e; cases e]
            exact e
          clear lists
          generalize upd H1 a (.frz od (.dK (kvsD l b))) = HL at *
          refine ⟨_, rfl, a, od, rfl, .inl ⟨_, hL, fun D hD => ?_⟩⟩
          have rd2 : ∀ {G : Hp}, Same HL G → Rd G c (.dK (kvsD l2 b)) := fun s => rdc.imp (fun e => s _ _ e) fun ⟨o, e⟩ => ⟨o, s _ _ e⟩
          refine lc_it walk_keys (fun i H' => Same HL H' ∧ H' D = some (.lst (((kvsD l b).take i).map fun _ => V.bl true))) ⟨same_new _ hD, by rw [upd_same]; rfl⟩ (fun i H' _ z => z.1 _ _ hL) ?_ ?_
          · rintro i x H2 H3 hi ⟨s2, d2⟩ ⟨rfl, kk, v0, hk, rfl⟩
            have two : b = true ∧ i = 0 ∧ kk = (Sum.inr (("a" : Str)) : Key) ∧ v0 = .ref l := by
              cases b with
              | false => cases hk
              | true =>
                cases i with
                | zero =>
                  cases hk
                  exact ⟨rfl, rfl, rfl, rfl⟩
                | succ i => cases hk
            obtain ⟨rfl, rfl, rfl, rfl⟩ := two
            have rd : Rd H3 a (.dK (kvsD l true)) := .inr ⟨od, s2 _ _ hL⟩
            have dg : DGet H3 a (kV (Sum.inr "a")) (some (.ref l)) := .inl ⟨_, _, rd, rfl, rfl⟩
            have dgc : DGet H3 c (kV (Sum.inr "a")) (some (.ref l2)) := .inl ⟨_, _, rd2 s2, rfl, rfl⟩
            have dp1 : dep (PyData.list [.int 1]) < n := by
              have z : dep (dictD true) < n + 1 := hd
              show 1 + max 0 0 < n
              have y : dep (dictD true) = 2 := rfl
              omega
            refine ⟨rfl, _, rfl, _, rfl, c, _, rfl, dgc, _, rfl, iteT ?_⟩
            refine ⟨_, rfl, _, rfl, a, _, rfl, dg, _, rfl, c, rfl, .inl ⟨_, rd2 s2⟩, _, rfl, some (.ref l2), dgc, _, _, .list [.int 1], rfl, .lst (s2 _ _ (lists2 _ (hl rfl))) (.cons (.int 1) .nil), .lst (s2 _ _ (lists2 _ (hl2 rfl))) (.cons (.int 1) .nil), dp1, by decide, fun H4 s4 => ?_⟩
            refine ⟨_, s4 _ _ d2, (by show 0 < sizeLine; decide), same_put (s2.trans s4) _ hD, ?_⟩
            rw [upd_same]
            rfl
          · rintro H2 ⟨s2, d2⟩
            rw [List.take_length, bl_map] at d2
            refine ⟨D, _, rfl, .inl (.inl d2), s2 _ _ hL, ?_⟩
            have e3 : ((kvsD l b).map fun _ => true).all id = true := by
              rw [List.all_map]
              simp
            rw [e3]
            exact k _ (back _ s2)
        | none =>
          cases hv1
          cases hu1
          refine iteF (iteF ⟨_, rfl, _, _, _, _, _, rfl, .ty _, ty1, kt (by simp), _, rfl, _, _, _, _, _, rfl, .ty _, ty2, kt (by simp), rfl, _, rfl, ifT (decide_eq_true rfl) ⟨_, rfl, _, rfl, rfl, ?_⟩⟩)
          rw [decide_eq_true rfl]
          exact k _ s1
        | bool b =>
          cases hv1
          cases hu1
          refine iteF (iteF ⟨_, rfl, _, _, _, _, _, rfl, .ty _, ty1, kt (by simp), _, rfl, _, _, _, _, _, rfl, .ty _, ty2, kt (by simp), rfl, _, rfl, ifT (decide_eq_true rfl) ⟨_, rfl, _, rfl, rfl, ?_⟩⟩)
          rw [decide_eq_true rfl]
          exact k _ s1
        | int b =>
          cases hv1
          cases hu1
          refine iteF (iteF ⟨_, rfl, _, _, _, _, _, rfl, .ty _, ty1, kt (by simp), _, rfl, _, _, _, _, _, rfl, .ty _, ty2, kt (by simp), rfl, _, rfl, ifT (decide_eq_true rfl) ⟨_, rfl, _, rfl, rfl, ?_⟩⟩)
          rw [decide_eq_true rfl]
          exact k _ s1
        | str b =>
          cases hv1
          cases hu1
          refine iteF (iteF ⟨_, rfl, _, _, _, _, _, rfl, .ty _, ty1, kt (by simp), _, rfl, _, _, _, _, _, rfl, .ty _, ty2, kt (by simp), rfl, _, rfl, ifT (decide_eq_true rfl) ⟨_, rfl, _, rfl, rfl, ?_⟩⟩)
          rw [decide_eq_true rfl]
          exact k _ s1
end
end Fm

/-! ## K06P -/
set_option Elab.async false
set_option maxRecDepth 100000
set_option maxHeartbeats 4000000
namespace Fm
open PySem L2
theorem cutV_from (xs : List V) (k : Nat) (h : k ≤ xs.length) : cutV xs (some (k : Int)) none = xs.drop k := by
  unfold cutV
  rw [HT.sIx_none, HT.sIx_nat, Nat.min_eq_left h, List.take_of_length_le (by rw [List.length_drop]; omega)]
theorem sizL_app : ∀ ds es : List PyData, sizL (ds ++ es) = sizL ds + sizL es
  | [], es => by show sizL es = 0 + sizL es; rw [Nat.zero_add]
  | d :: ds, es => by
    show siz d + sizL (ds ++ es) = siz d + sizL ds + sizL es
    rw [sizL_app ds es, Nat.add_assoc]
theorem depL_sub : ∀ {es ds : List PyData}, (∀ c ∈ es, c ∈ ds) → depL es ≤ depL ds
  | [], _, _ => Nat.zero_le _
  | e :: es, ds, h => Nat.max_le.mpr ⟨dep_mem (h e List.mem_cons_self), depL_sub fun c m => h c (List.mem_cons_of_mem _ m)⟩
theorem sizL_drop (ds : List PyData) (n : Nat) : sizL (ds.drop n) ≤ sizL ds := by
  have z := sizL_app (ds.take n) (ds.drop n)
  rw [List.take_append_drop] at z
  omega
theorem sizL_take (ds : List PyData) (n : Nat) : sizL (ds.take n) ≤ sizL ds := by
  have z := sizL_app (ds.take n) (ds.drop n)
  rw [List.take_append_drop] at z
  omega
def isIntD : PyData → Bool
  | .int _ => true
  | _ => false
end Fm

/-! ## K06S -/
set_option Elab.async false
set_option maxRecDepth 100000
set_option maxHeartbeats 4000000
namespace Fm
open PySem L2
/-- what the top has left of names, for the stores -/
structure Tx2 (K : PySem.W.Frag) (mg : Str → Option Value) (CT : Addr) : Prop where
  g_Store : mg "Store" = some (.ref CT)
  clT : Cls K CT
  nSh : NoAttr K CT "shape"
  nRw : NoAttr K CT "_rows"
/-! ### rows of values -/
def isValD : PyData → Bool
  | .int i => decide (-1000000000 ≤ i) && decide (i ≤ 1000000000)
  | _ => false
/-- a row of w values -/
def okRow (w : Nat) (d : PyData) : Bool := rowD3 w w d && (partsD d).all isValD
/-- the first row that is not one of w values -/
def firstWrong (w : Nat) (R : List PyData) : Option Nat := R.findIdx? fun d => !okRow w d
theorem first_none {w : Nat} {R : List PyData} (h : ∀ (j : Nat) (r : PyData), R[j]? = some r → okRow w r = true) : firstWrong w R = none := by
  unfold firstWrong
  rw [List.findIdx?_eq_none_iff]
  intro r m
  obtain ⟨j, hj⟩ := List.getElem?_of_mem m
  rw [h j r hj]
  rfl
theorem first_hit {w : Nat} {R : List PyData} {i : Nat} {r : PyData} (h : ∀ (j : Nat) (r : PyData), j < i → R[j]? = some r → okRow w r = true) (hi : R[i]? = some r) (n : okRow w r = false) : firstWrong w R = some i := by
  unfold firstWrong
  obtain ⟨hl, e⟩ := List.getElem?_eq_some_iff.mp hi
  rw [List.findIdx?_eq_some_iff_getElem]
  refine ⟨hl, ?_, fun j hj => ?_⟩
  · rw [e, n]
    rfl
  · rw [h j _ hj (List.getElem?_eq_getElem _)]
    decide
/-- the index of the first wrong row of what stands in the place of the rows -/
def firstD (w : Nat) (d : PyData) : Option Int := if isRowD d = true then (firstWrong w (partsD d)).map Int.ofNat else some (-1)
def optV : Option Int → V
  | none => .non
  | some i => .int i
section
variable {P : Program} {w : World} {K : PySem.W.Frag} {mg : Str → Option Value} {base : Heap} {CS CT : Addr}
def spIsInt : Sp := fun vs H Q _ => ∃ (v : V) (d : PyData), vs = [v] ∧ Tp H v d ∧ Q (.bl (isIntD d)) H
abbrev s_is_integer : Stmt := topS 4
abbrev sc_is_integerN : List Str := ["thing"]
abbrev ps_is_integer : List Str := ["thing"]
theorem sc_is_integer : FnScope sc_is_integerN ps_is_integer (defScope s_is_integer) := ⟨rfl, rfl, rfl, by decide +kernel, rfl, by decide +kernel, by decide +kernel⟩
theorem ok_is_integer {f : Addr} {fd : FuncData} (F : Fun K "is_integer" "is_integer" s_is_integer f fd) (T : Txt K mg CS) : FnOk P w K mg base CX0 1 f fd ps_is_integer spIsInt := by
  refine F.ok sc_is_integer (fun vs H Q E h => ?_) (fun cdv A outer s H vs Q E hr h => ?_)
  · obtain ⟨_, _, rfl, _⟩ := h
    rfl
  · obtain ⟨v, d, rfl, hv, k⟩ := h
    refine ⟨_, (pss_one (ps_ret (pe_and (pe_callB call_isi (by rfl) T.n_isinstance (by decide +kernel) (pa_cons (pv 0) (pa_cons (pe_bltn (v := .ty "int") (by rfl) T.n_int (by decide +kernel) rfl) pa_nil))) (pe_one (pe_not (pe_callB call_isi (by rfl) T.n_isinstance (by decide +kernel) (pa_cons (pv 0) (pa_cons (pe_bltn (v := .ty "bool") (by rfl) T.n_bool (by decide +kernel) rfl) pa_nil)))))))), ?_⟩
    have ty := hv.ty (K := K)
    refine ⟨_, rfl, _, _, _, _, _, rfl, .ty _, ty, kit_ty (kit_d (by simp)), _, rfl, ?_⟩
    cases d with
    | int i => exact iteT ⟨_, rfl, _, _, _, _, _, rfl, .ty _, ty, kit_ty (kit_d (by simp)), _, rfl, k⟩
    | bool b => exact iteT ⟨_, rfl, _, _, _, _, _, rfl, .ty _, ty, kit_ty (kit_d (by simp)), _, rfl, k⟩
    | none => exact iteF k
    | str _ => exact iteF k
    | list _ => exact iteF k
    | tuple _ => exact iteF k
    | dict _ => exact iteF k
def spIsVal : Sp := fun vs H Q _ => ∃ (v : V) (d : PyData), vs = [v] ∧ Tp H v d ∧ Q (.bl (isValD d)) H
abbrev s_is_value : Stmt := topS 5
abbrev sc_is_valueN : List Str := ["thing"]
abbrev ps_is_value : List Str := ["thing"]
theorem sc_is_value : FnScope sc_is_valueN ps_is_value (defScope s_is_value) := ⟨rfl, rfl, rfl, by decide +kernel, rfl, by decide +kernel, by decide +kernel⟩
theorem ok_is_value {f : Addr} {fd : FuncData} (F : Fun K "is_value" "is_value" s_is_value f fd) (T : Txt K mg CS) (D_is_integer : Df P w K mg base "is_integer" 1 ps_is_integer spIsInt) : FnOk P w K mg base CX0 2 f fd ps_is_value spIsVal := by
  refine F.ok sc_is_value (fun vs H Q E h => ?_) (fun cdv A outer s H vs Q E hr h => ?_)
  · obtain ⟨_, _, rfl, _⟩ := h
    rfl
  · obtain ⟨v, d, rfl, hv, k⟩ := h
    refine ⟨_, (pss_one (ps_ret (pe_and (pe_d D_is_integer (hr.mono (by decide)) (pa_cons (pv 0) pa_nil)) (pe_one (pe_chain op_le op_le (pe_un un_neg (pe_gI T.g_LARGEST_VALUE)) (pv 0) (pe_gI T.g_LARGEST_VALUE)))))), ?_⟩
    refine ⟨_, rfl, v, d, rfl, hv, _, rfl, ?_⟩
    cases d with
    | int i =>
      rw [hv.intI] at *
      refine iteT ?_
      refine ⟨_, rfl, _, rfl, _, _, rfl, rfl, _, rfl, ifd (fun h1 => ?_) fun h1 => ?_⟩
      · refine ⟨_, _, rfl, rfl, ?_⟩
        have z : isValD (.int i) = decide (i ≤ 1000000000) := by
          show (decide (-1000000000 ≤ i) && decide (i ≤ 1000000000)) = _
          rw [decide_eq_true h1]
          rfl
        rw [z] at k
        exact k
      · have z : isValD (.int i) = false := by
          show (decide (-1000000000 ≤ i) && decide (i ≤ 1000000000)) = _
          rw [decide_eq_false h1]
          rfl
        rw [z] at k
        exact k
    | _ => exact iteF k
def spFirst : Sp := fun vs H Q _ => ∃ (v : V) (d : PyData) (wd : Nat), vs = [v, .int wd] ∧ Tp H v d ∧ siz d ≤ 100000 ∧ ∀ H', Same H H' → Q (optV (firstD wd d)) H'
abbrev s_first_wrong_row : Stmt := topS 28
abbrev sc_first_wrong_rowN : List Str := ["rows", "width", "at", "row", "value"]
abbrev ps_first_wrong_row : List Str := ["rows", "width"]
theorem sc_first_wrong_row : FnScope sc_first_wrong_rowN ps_first_wrong_row (defScope s_first_wrong_row) := ⟨rfl, rfl, rfl, by decide +kernel, rfl, by decide +kernel, by decide +kernel⟩
theorem ok_first_wrong_row {f : Addr} {fd : FuncData} (F : Fun K "first_wrong_row" "first_wrong_row" s_first_wrong_row f fd) (T : Txt K mg CS) (D_is_row : Df P w K mg base "is_row" 1 ps_is_row (spIsRow K)) (D_is_value : Df P w K mg base "is_value" 2 ps_is_value spIsVal) : FnOk P w K mg base CX0 3 f fd ps_first_wrong_row spFirst := by
  refine F.ok sc_first_wrong_row (fun vs H Q E h => ?_) (fun cdv A outer s H vs Q E hr h => ?_)
  · obtain ⟨_, _, _, rfl, _⟩ := h
    rfl
  · obtain ⟨v, d, wd, rfl, hv, hz, k⟩ := h
    refine ⟨_, (pss_cons (ps_if (pt_not (pt_val (pe_callB call_isiT (by rfl) T.n_isinstance (by decide +kernel) (pa_cons (pv 0) (pa_cons (pe_tup (pa_cons (pe_bltn (v := .ty "list") (by rfl) T.n_list (by decide +kernel) rfl) (pa_cons (pe_bltn (v := .ty "tuple") (by rfl) T.n_tuple (by decide +kernel) rfl) pa_nil))) pa_nil)))))
    (pss_one (ps_ret (pe_un un_neg pe_int)))
    pss_nil)
  (pss_cons (ps_for PassesOwn.never rfl (pi_enumA (by rfl) T.n_enumerate (pa_cons (pv 0) pa_nil)) (pg_tup (by rfl) (pgs_cons (pg_name (i := 2) sc_first_wrong_row.nd rfl (Or.inl rfl)) (pgs_cons (pg_name (i := 3) sc_first_wrong_row.nd rfl (Or.inl rfl)) pgs_nil)))
    (pss_one (ps_if (PW.pt (pw_or (pt_not (pt_val (pe_d D_is_row (hr.mono (by decide)) (pa_cons (pv 3) (pa_cons (pv 1) (pa_cons (pv 1) pa_nil)))))) (pw_or1 (pt_not (pt_val (pe_callB (cr_all (by rfl)) (by rfl) T.n_all (by decide +kernel) (pa_cons (pe_lc (own := [("value", 4)]) (g := gName 4) (tt := tYes) (by rfl) sc_first_wrong_row.nd (pi_any (pv 3)) (blkOk_by (own := [("value", 4)]) (N := sc_first_wrong_rowN) (sc := defScope s_first_wrong_row) (by decide +kernel)) (fun _ _ _ _ _ => pg_name (i := 4) sc_first_wrong_row.nd rfl (Or.inl rfl)) (fun _ _ _ _ _ => pts_nil) (fun _ _ _ _ _ => (pe_d D_is_value (hr.mono (by decide)) (pa_cons (pv 4) pa_nil)))) pa_nil)))))))
      (pss_one (ps_ret (pv 2)))
      pss_nil)))
  (pss_one (ps_ret pe_non)))), ?_⟩
    refine ⟨_, rfl, (by show 2 ≤ sizeLine; decide), fun tp htp => ?_⟩
    have s1 : Same H (upd H tp (.tup [.ty "list", .ty "tuple"])) := same_new _ htp
    have up : (upd H tp (.tup [.ty "list", .ty "tuple"])) tp = some (.tup [.ty "list", .ty "tuple"]) := upd_same
    have hv1 := hv.same s1
    generalize upd H tp (.tup [.ty "list", .ty "tuple"]) = H1 at *
    refine ⟨_, tp, _, _, _, _, rfl, up, clsLT, hv1.ty, kitAny_row, _, rfl, ?_⟩
    cases er : isRowD d with
    | false =>
      have z := k _ s1
      unfold firstD at z
      rw [er] at z
      exact iteT ⟨1, rfl, z⟩
    | true =>
      obtain ⟨a, xs, rfl, hx, ha⟩ := hv1.row er
      have lx := ha.len
      rw [siz_row er] at hz
      have lz := siz_len (partsD d)
      refine iteF ⟨_, rfl, a, xs, rfl, enum_of (K := K) (rw_sq hx) (Same.refl _) fun J G gm wk => ?_⟩
      refine for_it wk (fun i σ H' => ∃ v2 v3 v4, σ = [some (.ref a), some (.int wd), v2, v3, v4] ∧ Same H1 H' ∧ ∀ (j : Nat) (r : PyData), j < i → (partsD d)[j]? = some r → okRow wd r = true) ⟨_, _, _, rfl, Same.refl _, fun j r h => by omega⟩ (fun i σ H' _ z => by obtain ⟨_, _, _, _, z, _⟩ := z; exact gm H' z) ?_ ?_
      · rintro i x σ H2 H3 hi ⟨v2, v3, v4, rfl, s2, inv⟩ ⟨U, x1, y, rfl, hU, rfl, e1, hy⟩
        obtain rfl : V.int (i : Nat) = x1 := Option.some.inj e1
        obtain ⟨r, hr', hdp⟩ := ha.at hy
        have s3 : Same H1 (upd H2 U (.tup [V.int (i : Nat), y])) := s2.trans (same_new _ hU)
        have rm := List.mem_of_getElem? hr'
        have rz := siz_mem rm
        refine ⟨U, _, rfl, .inl (.inl upd_same), rfl, _, _, rfl, _, _, rfl, rfl, ?_⟩
        generalize upd H2 U (.tup [V.int (i : Nat), y]) = H3 at *
        have wrong : ∀ {H'}, Same H3 H' → okRow wd r = false → Q (.int (i : Nat)) H' := fun s e => by
          have z := k _ (s1.trans (s3.trans s))
          unfold firstD at z
          rw [er, first_hit inv hr' e] at z
          exact z
        refine ⟨_, rfl, _, rfl, _, rfl, y, r, _, _, rfl, hdp.same s3, fun H4 s4 => ⟨_, rfl, ?_⟩⟩
        cases e3 : rowD3 wd wd r with
        | false => exact iteT (iteT ⟨_, rfl, wrong s4 (by unfold okRow; rw [e3]; rfl)⟩)
        | true =>
          refine iteF ?_
          have rr : isRowD r = true := by
            unfold rowD3 at e3
            simp only [Bool.and_eq_true] at e3
            exact e3.1.1
          obtain ⟨q, ys, rfl, hq, ta⟩ := ((hdp.same s3).same s4).row rr
          have ly := ta.len
          rw [siz_row rr] at rz
          have lr := siz_len (partsD r)
          refine ⟨_, rfl, q, _, rfl, any_of (K := K) (rw_sq hq) (Same.refl _) fun J G gm wk => (fun D hD => ?_)⟩
          refine lc_it wk (fun m H' => Same H4 H' ∧ H' D = some (.lst (((partsD r).take m).map fun c => V.bl (isValD c)))) ⟨same_new _ hD, by rw [upd_same]; rfl⟩ (fun m H' _ z => gm H' z.1) ?_ ?_
          · rintro m x H5 H6 hm ⟨s5, d5⟩ ⟨rfl, hx⟩
            obtain ⟨c, hc, hcv⟩ := ta.at hx
            refine ⟨rfl, _, rfl, x, c, rfl, hcv.same s5, _, d5, take_lt _ (by omega), same_put s5 _ hD, ?_⟩
            rw [upd_same, map_take _ hc]
          · rintro H5 ⟨s5, d5⟩
            rw [ly, List.take_length, bl_map] at d5
            refine ⟨D, _, rfl, .inl (.inl d5), ?_⟩
            have e4 : ((partsD r).map fun c => isValD c).all id = (partsD r).all isValD := by
              rw [List.all_map]
              rfl
            rw [e4]
            refine ⟨_, rfl, ?_⟩
            cases e5 : (partsD r).all isValD with
            | false => exact iteT ⟨_, rfl, wrong (s4.trans s5) (by unfold okRow; rw [e3, e5]; rfl)⟩
            | true =>
              refine iteF ⟨_, _, _, rfl, s3.trans (s4.trans s5), fun j r2 hj h2 => ?_⟩
              by_cases z : j = i
              · rw [z, hr'] at h2
                rw [← Option.some.inj h2]
                unfold okRow
                rw [e3, e5]
                rfl
              · exact inv j r2 (by omega) h2
      · rintro σ H2 ⟨v2, v3, v4, rfl, s2, inv⟩
        have z := k _ (s1.trans s2)
        unfold firstD at z
        rw [er, first_none fun j r h => inv j r (by rw [lx]; exact (List.getElem?_eq_some_iff.mp h).1) h] at z
        exact z
end
end Fm

/-! ## K06T -/
set_option Elab.async false
set_option maxRecDepth 100000
set_option maxHeartbeats 4000000
namespace Fm
open PySem L2
theorem strs_inv {H : Hp} : ∀ {p : List Str} {xs : List V}, TpAll H xs (p.map PyData.str) → xs = p.map V.str
  | [], _, h => by cases h; rfl
  | s :: p, _, h => by
    cases h with
    | cons h1 h2 =>
      rw [h1.strI, strs_inv h2]
      rfl
theorem tab_in {H : Hp} {v : V} {t : Tab} (h : Tp H v (tabD false t)) : ∃ a c, v = .ref a ∧ H a = some (.tup [.str t.1, .ref c]) ∧ H c = some (.tup (t.2.map V.str)) := by
  obtain ⟨a, xs, rfl, ha, ta⟩ := (show Tp H v (.tuple [.str t.1, .tuple (t.2.map PyData.str)]) from h).tuple
  cases ta with
  | cons h1 h2 =>
    cases h2 with
    | cons h3 h4 =>
      cases h4
      obtain ⟨c, ys, rfl, hc, tc⟩ := h3.tuple
      rw [strs_inv tc] at hc
      rw [h1.strI] at ha
      exact ⟨a, c, rfl, ha, hc⟩
/-- the tables of a shape -/
def tsD (ts : List Tab) : PyData := .tuple (ts.map (tabD false))
/-- the first table with a wrong row -/
def firstBad (g : Str → PyData) (ts : List Tab) : Option (Str × Int) := ts.findSome? fun t => (firstD t.2.length (g t.1)).map fun i => (t.1, i)
/-- a dict of rows, by the names of the tables -/
structure Rd1 (F H : Hp) (rd : Addr) (kvs : List (Key × V)) (ts : List Tab) (g : Str → PyData) : Prop where
  at_ : H rd = some (.dK kvs)
  no : F rd = none
  key : kvs.map (·.1) = ts.map (fun t => (Sum.inr t.1 : Key))
  ex : ∀ t ∈ ts, ∃ v, valV kvs (Sum.inr t.1) = some v ∧ Tp F v (g t.1)
  sz : ∀ t ∈ ts, siz (g t.1) ≤ 100000
  dp : ∀ t ∈ ts, dep (g t.1) < 40
theorem Rd1.len {F H : Hp} {rd : Addr} {kvs : List (Key × V)} {ts : List Tab} {g : Str → PyData} (h : Rd1 F H rd kvs ts g) : kvs.length = ts.length := by
  have z := congrArg List.length h.key
  rw [List.length_map, List.length_map] at z
  exact z
theorem bad_none {g : Str → PyData} {ts : List Tab} {i : Nat} {t : Tab} (h : firstBad g (ts.take i) = none) (ht : ts[i]? = some t) (n : firstD t.2.length (g t.1) = none) : firstBad g (ts.take (i + 1)) = none := by
  unfold firstBad at *
  rw [List.take_add_one, ht, List.findSome?_append, h]
  simp [n]
theorem bad_hit {g : Str → PyData} {ts : List Tab} {i : Nat} {j : Int} {t : Tab} (h : firstBad g (ts.take i) = none) (ht : ts[i]? = some t) (n : firstD t.2.length (g t.1) = some j) : firstBad g ts = some (t.1, j) := by
  have e : ts = ts.take i ++ t :: ts.drop (i + 1) := by
    obtain ⟨hl, q⟩ := List.getElem?_eq_some_iff.mp ht
    rw [← q, List.getElem_cons_drop, List.take_append_drop]
  unfold firstBad at *
  rw [e, List.findSome?_append, h]
  simp [n]
/-- an error that holds a pair -/
def ErrPair (H : Hp) (v i : V) (E : Option Addr → Hp → Prop) : Prop := ∀ (d tp : Addr) (H' : Hp), Same H H' → H d = none → H tp = none → H' d = some (.xd [("value", .ref tp)]) → H' tp = some (.tup [v, i]) → E (some d) H'
section
variable {P : Program} {w : World} {K : PySem.W.Frag} {mg : Str → Option Value} {base : Heap} {CS CT CR CN : Addr}
def spCheckR (CS CR : Addr) : Sp := fun vs H Q E => ∃ (F : Hp) (sh rd : Addr) (ts : List Tab) (kvs : List (Key × V)) (g : Str → PyData), vs = [.ref sh, .ref rd] ∧ Same F H ∧ ShT CS F sh (tsD ts) ∧ TsOk ts ∧ Rd1 F H rd kvs ts g ∧
  (∀ t i, firstBad g ts = some (t, i) → ErrPair H (.str t) (.int i) (E (.ref CR))) ∧ (firstBad g ts = none → ∀ H', Same H H' → Q .non H')
abbrev s_check_rows : Stmt := topS 27
abbrev sc_check_rowsN : List Str := ["shape", "rows", "table", "_", "names", "name", "fields", "at"]
abbrev ps_check_rows : List Str := ["shape", "rows"]
theorem sc_check_rows : FnScope sc_check_rowsN ps_check_rows (defScope s_check_rows) := ⟨rfl, rfl, rfl, by decide +kernel, rfl, by decide +kernel, by decide +kernel⟩
theorem ok_check_rows {f : Addr} {fd : FuncData} (F : Fun K "check_rows" "check_rows" s_check_rows f fd) (T : Txt K mg CS) (X_BadRows : Xf P w K mg base "BadRows" CR "value") (D_first_wrong_row : Df P w K mg base "first_wrong_row" 3 ps_first_wrong_row spFirst) :
    FnOk P w K mg base (L2.CX P w) 4 f fd ps_check_rows (spCheckR CS CR) := by
  refine F.okX sc_check_rows (fun vs H Q E h => ?_) (fun cdv A outer s H vs Q E hr h => ?_)
  · obtain ⟨_, _, _, _, _, _, rfl, _⟩ := h
    rfl
  · obtain ⟨F0, sh, rd, ts, kvs, g, rfl, sF, ⟨dx, tv, hsh, dtv⟩, ok, R, kE, kQ⟩ := h
    obtain ⟨Tx, hno⟩ := X_BadRows.oex
    refine ⟨_, (pss_cons (ps_set (i := 4) sc_check_rows.nd rfl (Or.inr rfl) (pe_lc (own := [("table", 2), ("_", 3)]) (g := gTup K 2 (gCons (gName 2) (gCons (gName 3) gNil))) (tt := tYes) (by rfl) sc_check_rows.nd (pi_tup (pe_fld (pv 0) rfl)) (blkOk_by (own := [("table", 2), ("_", 3)]) (N := sc_check_rowsN) (sc := defScope s_check_rows) (by decide +kernel)) (fun _ _ _ _ _ => pg_tup (by rfl) (pgs_cons (pg_name (i := 2) sc_check_rows.nd rfl (Or.inl rfl)) (pgs_cons (pg_name (i := 3) sc_check_rows.nd rfl (Or.inl rfl)) pgs_nil))) (fun _ _ _ _ _ => pts_nil) (fun _ _ _ _ _ => (pv 2))))
  (pss_cons (ps_if (PW.pt (pw_or (pt_not (pt_val (pe_callB call_isi (by rfl) T.n_isinstance (by decide +kernel) (pa_cons (pv 1) (pa_cons (pe_bltn (v := .ty "dict") (by rfl) T.n_dict (by decide +kernel) rfl) pa_nil))))) (pw_or1 (pt_not (pt_val (pe_lock (pe_callB (cr_all (by rfl)) (by rfl) T.n_all (by decide +kernel) (pa_cons (pe_lc (own := [("name", 5)]) (g := gName 5) (tt := tYes) (by rfl) sc_check_rows.nd (pi_keys (pv 1)) (blkOk_by (own := [("name", 5)]) (N := sc_check_rowsN) (sc := defScope s_check_rows) (by decide +kernel)) (fun _ _ _ _ _ => pg_name (i := 5) sc_check_rows.nd rfl (Or.inl rfl)) (fun _ _ _ _ _ => pts_nil) (fun _ _ _ _ _ => (pe_cmpR (opK_in (K := K)) (pv 5) (pv 4) (by rfl)))) pa_nil))))))))
    (pss_one (ps_rG X_BadRows (hr.mono (by decide)) (takes_of rfl rfl rfl rfl) (pe_tup (pa_cons pe_non (pa_cons (pe_un un_neg pe_int) pa_nil)))))
    pss_nil)
  (pss_one (ps_for PassesOwn.leaving rfl (pi_tup (pe_fld (pv 0) rfl)) (pg_tup (by rfl) (pgs_cons (pg_name (i := 2) sc_check_rows.nd rfl (Or.inl rfl)) (pgs_cons (pg_name (i := 6) sc_check_rows.nd rfl (Or.inl rfl)) pgs_nil)))
    (pss_cons (ps_set (i := 7) sc_check_rows.nd rfl (Or.inl rfl) (pe_d D_first_wrong_row (hr.mono (by decide)) (pa_cons (pe_dget2 (Nat.lt_of_le_of_lt (Nat.add_le_add_left (by decide) _) hr.units) (pv 1) (pv 2) (pe_tup pa_nil) ⟨rfl, rfl, rfl, rfl⟩) (pa_cons (pe_callB call_len_seq (by rfl) T.n_len (by decide +kernel) (pa_cons (pv 6) pa_nil)) pa_nil))))
    (pss_one (ps_if (pt_cmpR op_notN (pv 7) pe_non (nomark _))
      (pss_one (ps_rG X_BadRows (hr.mono (by decide)) (takes_of rfl rfl rfl rfl) (pe_tup (pa_cons (pv 2) (pa_cons (pv 7) pa_nil)))))
      pss_nil))))))), ?_⟩
    obtain ⟨tpl, txs, rfl, htp0, hd⟩ := (show Tp F0 tv (.tuple (ts.map (tabD false))) from dtv).tuple
    have htp : SqT K H tpl txs := .inl (.inl (sF _ _ htp0))
    refine ⟨_, rfl, sh, CS, dx, _, _, rfl, sF _ _ hsh, T.cl, T.nT, rfl, tpl, rfl, ⟨_, htp⟩, fun D hD => ?_⟩
    have lx : txs.length = ts.length := by rw [hd.len, List.length_map]
    have lo := ok.hi
    have lk := R.len
    refine lc_it walk_tup (fun i H' => Same H H' ∧ H' D = some (.lst (((ts.map (·.1)).take i).map V.str))) ⟨same_new _ hD, by rw [upd_same]; rfl⟩ (fun i H' _ z => same_sqT z.1 htp) ?_ ?_
    · rintro i x H2 H3 hi ⟨s2, d2⟩ ⟨rfl, hx⟩
      obtain ⟨c, hc, hxc⟩ := hd.at hx
      rw [List.getElem?_map] at hc
      obtain ⟨t, ht, rfl⟩ := Option.map_eq_some_iff.mp hc
      obtain ⟨p, q, rfl, hp, _⟩ := tab_in (hxc.same (sF.trans s2))
      have hn : (ts.map (·.1))[i]? = some t.1 := by rw [List.getElem?_map, ht]; rfl
      refine ⟨p, _, rfl, .inl (.inl hp), rfl, _, _, rfl, _, _, rfl, rfl, rfl, _, rfl, _, d2, take_lt _ (by rw [List.length_map]; omega), same_put s2 _ hD, ?_⟩
      rw [upd_same, map_take _ hn]
    rintro H2 ⟨s2, d2⟩
    rw [lx, List.take_of_length_le (by rw [List.length_map]; exact Nat.le_refl _)] at d2
    have r2 := s2 _ _ R.at_
    have nDr : D ≠ rd := Ne.symm (ne_of_none R.at_ hD)
    refine ⟨_, rfl, _, _, _, _, _, rfl, .ty _, .base (.dK r2), kit_ty (b := "dict") (r := true) (by decide +kernel), _, rfl, iteF ?_⟩
    refine ⟨rd, .dK kvs, r2, trivial, fun od => ?_⟩
    have hL : (upd H2 rd (.frz od (.dK kvs))) rd = some (.frz od (.dK kvs)) := upd_same
    have dL : (upd H2 rd (.frz od (.dK kvs))) D = some (.lst ((ts.map (·.1)).map V.str)) := by rw [upd_ne nDr]; exact d2
    have back : ∀ H', Same (upd H2 rd (.frz od (.dK kvs))) H' → Same H2 (upd H' rd (.dK kvs)) := fun H' q b o e => by
      by_cases z : b = rd
      · rw [z, upd_same]
        rw [z, r2] at e
        exact e
      · rw [upd_ne z]
        exact q b o (by rw [upd_ne z]; exact e)
    generalize upd H2 rd (.frz od (.dK kvs)) = HL at *
    refine ⟨_, rfl, rd, od, rfl, .inl ⟨kvs, hL, fun D2 hD2 => ?_⟩⟩
    refine lc_it walk_keys (fun i H' => Same HL H' ∧ H' D2 = some (.lst ((kvs.take i).map fun _ => V.bl true))) ⟨same_new _ hD2, by rw [upd_same]; rfl⟩ (fun i H' _ z => z.1 _ _ hL) ?_ ?_
    · rintro i x H3 H4 hi ⟨s3, d3⟩ ⟨rfl, kk, v0, hk, rfl⟩
      obtain ⟨t, mt, et⟩ : ∃ t ∈ ts, (Sum.inr t.1 : Key) = kk := by
        have z : kk ∈ kvs.map (·.1) := List.mem_map.mpr ⟨(kk, v0), List.mem_of_getElem? hk, rfl⟩
        rw [R.key] at z
        obtain ⟨t, mt, e⟩ := List.mem_map.mp z
        exact ⟨t, mt, e⟩
      subst et
      refine ⟨rfl, _, rfl, _, rfl, D, _, rfl, .inl (.inl (.inl (s3 _ _ dL))), rfl, flat_strs _, _, d3, take_lt _ (by omega), same_put s3 _ hD2, ?_⟩
      rw [upd_same, map_take _ hk]
      show some (HO.lst (_ ++ [V.bl (inV (V.str t.1) ((ts.map (·.1)).map V.str))])) = some (HO.lst (_ ++ [V.bl true]))
      rw [inV_str, decide_eq_true (List.mem_map.mpr ⟨t, mt, rfl⟩)]
    rintro H3 ⟨s3, d3⟩
    rw [List.take_length, bl_map (f := fun _ => true)] at d3
    refine ⟨D2, _, rfl, .inl (.inl d3), s3 _ _ hL, ?_⟩
    have s4 := s2.trans (back _ s3)
    have d4 : (upd H3 rd (.dK kvs)) D = some (.lst ((ts.map (·.1)).map V.str)) := by rw [upd_ne nDr]; exact s3 _ _ dL
    generalize upd H3 rd (.dK kvs) = H4 at *
    refine ⟨_, rfl, ?_⟩
    have ea : (kvs.map fun _ => true).all id = true := by
      rw [List.all_map]
      simp
    rw [ea]
    refine iteF ?_
    refine ⟨_, rfl, sh, CS, dx, _, _, rfl, s4 _ _ (sF _ _ hsh), T.cl, T.nT, rfl, tpl, rfl, ⟨_, same_sqT s4 htp⟩, for_it walk_tup (fun i σ H' => ∃ v2 v3 v5 v6 v7, σ = [some (.ref sh), some (.ref rd), v2, v3, some (.ref D), v5, v6, v7] ∧ Same H H' ∧ firstBad g (ts.take i) = none)
      ⟨_, _, _, _, _, rfl, s4, rfl⟩ (fun i σ H' _ z => by obtain ⟨_, _, _, _, _, _, z, _⟩ := z; exact same_sqT z htp) ?_ ?_⟩
    · rintro i x σ H6 H5 hi ⟨v2, v3, v5, v6, v7, rfl, s5, inv⟩ ⟨rfl, hx⟩
      obtain ⟨c, hc, hxc⟩ := hd.at hx
      rw [List.getElem?_map] at hc
      obtain ⟨t, ht, rfl⟩ := Option.map_eq_some_iff.mp hc
      obtain ⟨p, q, rfl, hp, hq2⟩ := tab_in (hxc.same (sF.trans s5))
      have mt := List.mem_of_getElem? ht
      obtain ⟨u, hu, tu⟩ := R.ex t mt
      refine ⟨p, _, rfl, .inl (.inl hp), rfl, _, _, rfl, _, _, rfl, rfl, ?_⟩
      have r5 := s5 _ _ R.at_
      refine ⟨_, rfl, rd, rfl, .inl ⟨kvs, .inl r5⟩, _, rfl, Nat.zero_le _, fun e he => ⟨valV kvs (Sum.inr t.1), ?_, ?_⟩⟩
      · exact .inl ⟨kvs, Sum.inr t.1, .inl ((same_new _ he) _ _ r5), rfl, rfl⟩
      have s6 : Same H (upd H5 e (.tup [])) := s5.trans (same_new _ he)
      have q6 := same_new (.tup []) he _ _ hq2
      have tu6 : Tp (upd H5 e (.tup [])) ((valV kvs (Sum.inr t.1)).getD (.ref e)) (g t.1) := by
        rw [hu]
        exact tu.same (sF.trans s6)
      generalize upd H5 e (.tup []) = H7 at *
      refine ⟨_, rfl, q, _, rfl, .inr (.inl (.inl q6)), _, g t.1, t.2.length, (by rw [List.length_map]; rfl), tu6, R.sz t mt, fun H8 s8 => ?_⟩
      refine ⟨_, rfl, rfl, _, rfl, ?_⟩
      cases ef : firstD t.2.length (g t.1) with
      | none => exact iteF ⟨_, _, _, _, _, rfl, s6.trans s8, bad_none inv ht ef⟩
      | some j =>
        refine iteT ⟨_, rfl, _, rfl, (by show 2 ≤ sizeLine; decide), fun tp htp => ⟨(by show 1 ≤ 1000; decide), fun a ha => init_read (v := .ref tp) (Q := fun cls d H' => E cls d H') Tx hno ha fun d hd => ?_⟩⟩
        have sA := s6.trans (s8.trans (same_new (.tup [.str t.1, .int j]) htp))
        exact kE t.1 j (bad_hit inv ht ef) d tp _ (sA.trans (same_new _ hd)) (sA.free hd) ((s6.trans s8).free htp) upd_same (by rw [upd_ne (ne_of_none upd_same hd), upd_same]; rfl)
    · rintro σ H5 ⟨v2, v3, v5, v6, v7, rfl, s5, inv⟩
      rw [lx, List.take_length] at inv
      exact kQ inv H5 s5
end
end Fm

/-! ## K06U -/
set_option Elab.async false
set_option maxRecDepth 100000
set_option maxHeartbeats 4000000
namespace Fm
open PySem L2
/-! ### a store is made -/
def stF (sh rd : Addr) : List (Str × V) := [("shape", .ref sh), ("_rows", .ref rd)]
theorem stF_1 (v : V) : putF "shape" v [] = ([("shape", v)] : List (Str × V)) := rfl
theorem stF_2 (v : V) (rd : Addr) : putF "_rows" (.ref rd) ([("shape", v)] : List (Str × V)) = ([("shape", v), ("_rows", .ref rd)] : List (Str × V)) := by
  show (if ("shape" : Str) = "_rows" then [(("shape" : Str), V.ref rd)] else (("shape" : Str), v) :: putF "_rows" (.ref rd) []) = ([("shape", v), ("_rows", .ref rd)] : List (Str × V))
  rw [if_neg (by decide +kernel)]
  rfl
section
variable {κ : Type} [DecidableEq κ]
theorem put_new {kvs : List (κ × V)} {k : κ} {z : V} (h : k ∉ kvs.map (·.1)) : putK kvs k z = kvs ++ [(k, z)] := by
  unfold putK
  rw [if_neg]
  intro e
  rw [List.any_eq_true] at e
  obtain ⟨kv, m, q⟩ := e
  exact h (List.mem_map.mpr ⟨kv, m, of_decide_eq_true q⟩)
theorem val_old {kvs : List (κ × V)} {k j : κ} {z v : V} (h : valV kvs j = some v) : valV (kvs ++ [(k, z)]) j = some v := by
  unfold valV at *
  rw [List.find?_append]
  cases q : kvs.find? fun kv => decide (kv.1 = j) with
  | none => rw [q] at h; cases h
  | some u => rw [q] at h; exact h
theorem val_new {kvs : List (κ × V)} {k : κ} {z : V} (h : k ∉ kvs.map (·.1)) : valV (kvs ++ [(k, z)]) k = some z := by
  unfold valV
  rw [List.find?_append]
  have q : kvs.find? (fun kv => decide (kv.1 = k)) = none := by
    rw [List.find?_eq_none]
    intro kv m e
    exact h (List.mem_map.mpr ⟨kv, m, of_decide_eq_true e⟩)
  rw [q]
  simp
end
theorem nodup_take' {l : List Str} {i : Nat} {x : Str} (h : l.Nodup) (hx : l[i]? = some x) : x ∉ l.take i := fun m => by
  obtain ⟨hl, e⟩ := List.getElem?_eq_some_iff.mp hx
  obtain ⟨j, hj, ej⟩ := List.getElem_of_mem m
  rw [List.length_take] at hj
  rw [List.getElem_take] at ej
  have z := (List.getElem_inj (h₀ := by omega) (h₁ := hl) h).mp (ej.trans e.symm)
  omega
/-- how many rows there are -/
def total (g : Str → PyData) (ts : List Tab) : Nat := (ts.map fun t => (partsD (g t.1)).length).sum
theorem sum_total {g : Str → PyData} : ∀ ts : List Tab, (ts.map fun t => ((partsD (g t.1)).length : Int)).sum = ((total g ts : Nat) : Int)
  | [] => rfl
  | t :: ts => by
    unfold total
    rw [List.map_cons, List.sum_cons, List.map_cons, List.sum_cons, sum_total ts]
    unfold total
    omega
theorem bad_row {g : Str → PyData} {ts : List Tab} (h : firstBad g ts = none) {t : Tab} (m : t ∈ ts) : firstD t.2.length (g t.1) = none := by
  unfold firstBad at h
  rw [List.findSome?_eq_none_iff] at h
  exact Option.map_eq_none_iff.mp (h t m)
theorem firstD_row {w : Nat} {d : PyData} (h : firstD w d = none) : isRowD d = true ∧ firstWrong w (partsD d) = none := by
  unfold firstD at h
  by_cases e : isRowD d = true
  · rw [if_pos e] at h
    exact ⟨e, Option.map_eq_none_iff.mp h⟩
  · rw [if_neg e] at h
    cases h
/-- what is said of all but x -/
structure GrowX (x : Addr) (F H F' H' : Hp) : Prop where
  ff : Same F F'
  fh : Same F' H'
  hh : ∀ a o, a ≠ x → F a = none → H a = some o → F' a = none ∧ H' a = some o
  no : F' x = none
/-- the rows of a store: a dict by the names -/
def RsAt (F : Hp) (rd : Addr) (ts : List Tab) (g : Str → PyData) : Prop := ∃ kvs : List (Key × V), F rd = some (.dK kvs) ∧ kvs.map (·.1) = ts.map (fun t => (Sum.inr t.1 : Key)) ∧ ∀ t ∈ ts, ∃ v, valV kvs (Sum.inr t.1) = some v ∧ Tp F v (g t.1)
theorem RsAt.same {F F' : Hp} {rd : Addr} {ts : List Tab} {g : Str → PyData} (h : RsAt F rd ts g) (s : Same F F') : RsAt F' rd ts g := by
  obtain ⟨kvs, h1, h2, h3⟩ := h
  exact ⟨kvs, s _ _ h1, h2, fun t m => by obtain ⟨v, q1, q2⟩ := h3 t m; exact ⟨v, q1, q2.same s⟩⟩
section
variable {P : Program} {w : World} {K : PySem.W.Frag} {mg : Str → Option Value} {base : Heap} {CS CT CR CM : Addr}
def spStInit (CS CT CR : Addr) : Sp := fun vs H Q E => ∃ (F : Hp) (x dx sh rd : Addr) (ts : List Tab) (kvs : List (Key × V)) (g : Str → PyData), vs = [.ref x, .ref sh, .ref rd] ∧ H x = some (.ins CT dx []) ∧ Same F H ∧ F x = none ∧ ShT CS F sh (tsD ts) ∧ TsOk ts ∧ Rd1 F H rd kvs ts g ∧
  (∀ t i, firstBad g ts = some (t, i) → ErrPair H (.str t) (.int i) (E (.ref CR))) ∧
  (firstBad g ts = none → total g ts ≤ 300 ∧ ∀ (rd' : Addr) (F' H' : Hp), GrowX x F H F' H' → H' x = some (.ins CT dx (stF sh rd')) → RsAt F' rd' ts (fun n => tupd (g n)) → Q .non H')
abbrev s_Store_init : Stmt := inClass (topS 24) 0
abbrev sc_Store_initN : List Str := ["self", "shape", "rows", "table", "_"]
abbrev ps_Store_init : List Str := ["self", "shape", "rows"]
theorem sc_Store_init : FnScope sc_Store_initN ps_Store_init (defScope s_Store_init) := ⟨rfl, rfl, rfl, by decide +kernel, rfl, by decide +kernel, by decide +kernel⟩
theorem ok_Store_init {f : Addr} {fd : FuncData} (F : Fun K "__init__" "Store.__init__" s_Store_init f fd) (T : Txt K mg CS) (T2 : Tx2 K mg CT) (X_TooMany : X0 K mg "TooMany" CM) (D_check_rows : DfX P w K mg base "check_rows" 4 ps_check_rows (spCheckR CS CR)) (D3 : Df P w K mg base "as_tuples" 40 ps_as_tuples (spTup 40)) :
    FnOk P w K mg base (L2.CX P w) 41 f fd ps_Store_init (spStInit CS CT CR) := by
  refine F.okX sc_Store_init (fun vs H Q E h => ?_) (fun cdv A outer s H vs Q E hr h => ?_)
  · obtain ⟨_, _, _, _, _, _, _, _, rfl, _⟩ := h
    rfl
  · obtain ⟨F0, x, dx, sh, rd, ts, kvs, g, rfl, hx, sF, fx, shA, ok, R, kE, kQ⟩ := h
    refine ⟨_, (pss_cons (ps_if (pt_not (pt_val (pe_callB call_isi (by rfl) T.n_isinstance (by decide +kernel) (pa_cons (pv 1) (pa_cons (pe_glob (v := .ref CS) rfl T.g_Shape rfl) pa_nil))))) pss_never pss_nil)
  (pss_cons (ps_expr (pe_dE D_check_rows (hr.mono (by decide)) (takes_of rfl rfl rfl rfl) (pa_cons (pv 1) (pa_cons (pv 2) pa_nil))))
  (pss_cons (ps_fld (pv 0) (pv 1) rfl)
  (pss_cons (ps_fld (pv 0) (L2.pe_dc (own := [("table", 3), ("_", 4)]) (g := gTup K 2 (gCons (gName 3) (gCons (gName 4) gNil))) (tt := tYes) (by rfl) sc_Store_init.nd (pi_tup (pe_fld (pv 1) rfl)) (blkOk_by (own := [("table", 3), ("_", 4)]) (N := sc_Store_initN) (sc := defScope s_Store_init) (by decide +kernel)) (fun _ _ _ _ _ => pg_tup (by rfl) (pgs_cons (pg_name (i := 3) sc_Store_init.nd rfl (Or.inl rfl)) (pgs_cons (pg_name (i := 4) sc_Store_init.nd rfl (Or.inl rfl)) pgs_nil))) (fun _ _ _ _ _ => pts_nil) (fun _ _ _ _ _ => (pv 3)) (fun _ _ _ _ _ => (pe_d D3 (hr.mono (by decide)) (pa_cons (pe_dget2 (Nat.lt_of_le_of_lt (Nat.add_le_add_left (by decide) _) hr.units) (pv 2) (pv 3) (pe_tup pa_nil) ⟨rfl, rfl, rfl, rfl⟩) pa_nil)))) rfl)
  (pss_one (ps_if (pt_cmpR op_gt (pe_lock (pe_callB (cr_sum (by rfl)) (by rfl) T.n_sum (by decide +kernel) (pa_cons (pe_lc (own := [("table", 3)]) (g := gName 3) (tt := tYes) (by rfl) sc_Store_init.nd (pi_keys (pe_fld (pv 0) rfl)) (blkOk_by (own := [("table", 3)]) (N := sc_Store_initN) (sc := defScope s_Store_init) (by decide +kernel)) (fun _ _ _ _ _ => pg_name (i := 3) sc_Store_init.nd rfl (Or.inl rfl)) (fun _ _ _ _ _ => pts_nil) (fun _ _ _ _ _ => (pe_callB (cK_len_seq (K := K)) (by rfl) T.n_len (by decide +kernel) (pa_cons (pe_dget (Nat.lt_of_le_of_lt (Nat.add_le_add_left (by decide) _) hr.units) (pe_fldK (K := K) (pv 0)) (pv 3) (fun _ _ => rfl)) pa_nil)))) pa_nil))) (pe_gI T.g_MOST_ROWS) (nomark _))
    (pss_one (ps_r0 X_TooMany (takes_of rfl rfl rfl rfl)))
    pss_nil)))))), ?_⟩
    obtain ⟨dsh, tv, hsh, dtv⟩ := id shA
    have kk : PySem.W.kitOne K (.ref CS) (.ref CS) = some true := by
      show (if (Value.ref CS == Value.ref CS) = true then some true else _) = some true
      rw [if_pos (beq_self_eq_true _)]
    refine ⟨_, rfl, _, _, _, _, _, rfl, .own _, .base (.ins (sF _ _ hsh) T.cl T.c_cls T.c_get T.c_tak T.c_mro), kk, _, rfl, iteF ?_⟩
    refine ⟨_, rfl, _, rfl, F0, sh, rd, ts, kvs, g, rfl, sF, shA, ok, R, kE, fun hfb H1 s1 => ?_⟩
    obtain ⟨k300, kQ⟩ := kQ hfb
    refine ⟨_, rfl, _, rfl, x, CT, dx, _, rfl, s1 _ _ hx, T2.clT, T2.nSh, (by show 0 < 1000; decide), ?_⟩
    rw [stF_1]
    have s0 : Same F0 (upd H1 x (.ins CT dx ([("shape", .ref sh)] : List (Str × V)))) := same_put (sF.trans s1) _ fx
    have hxs : (upd H1 x (.ins CT dx ([("shape", .ref sh)] : List (Str × V)))) x = some (.ins CT dx ([("shape", .ref sh)] : List (Str × V))) := upd_same
    have toS : ∀ b o, b ≠ x → H b = some o → (upd H1 x (.ins CT dx ([("shape", .ref sh)] : List (Str × V)))) b = some o := fun b o n e => by rw [upd_ne n]; exact s1 b o e
    generalize upd H1 x (.ins CT dx ([("shape", .ref sh)] : List (Str × V))) = Hs at *
    have nrx : rd ≠ x := fun z => by
      have y := R.at_
      rw [z, hx] at y
      cases y
    have rs := toS _ _ nrx R.at_
    obtain ⟨tpl, txs, rfl, htp0, hd⟩ := (show Tp F0 tv (.tuple (ts.map (tabD false))) from dtv).tuple
    have htp : SqT K F0 tpl txs := .inl (.inl htp0)
    have lx : txs.length = ts.length := by rw [hd.len, List.length_map]
    have lo := ok.hi
    refine ⟨_, rfl, sh, CS, dsh, _, _, rfl, s0 _ _ hsh, T.cl, T.nT, rfl, tpl, rfl, ⟨_, same_sqT s0 htp⟩, fun D hD => ?_⟩
    have f0D : F0 D = none := s0.free hD
    refine dc_tup (K := K) (a := tpl) (xs := txs) (fun i H' => ∃ (F' : Hp) (kv2 : List (Key × V)), Grow F0 Hs F' H' ∧ F' D = none ∧ H' D = some (.dK kv2) ∧ kv2.map (·.1) = (ts.take i).map (fun t => (Sum.inr t.1 : Key)) ∧ ∀ t ∈ ts.take i, ∃ v, valV kv2 (Sum.inr t.1) = some v ∧ Tp F' v (tupd (g t.1)))
      ⟨F0, [], (Grow.refl s0).junk f0D hD _, f0D, upd_same, rfl, fun t m => by cases m⟩ (fun i H' _ z => by obtain ⟨F', kv2, gr, _⟩ := z; exact same_sqT (gr.ff.trans gr.fh) htp) ?_ ?_
    · rintro i y H2 hy ⟨F2, kv2, gr, f2, d2, ek, val⟩
      obtain ⟨c, hc, hxc⟩ := hd.at hy
      rw [List.getElem?_map] at hc
      obtain ⟨t, ht, rfl⟩ := Option.map_eq_some_iff.mp hc
      have mt := List.mem_of_getElem? ht
      obtain ⟨p, q, rfl, hp, _⟩ := tab_in (hxc.same (gr.ff.trans gr.fh))
      obtain ⟨u, hu, tu⟩ := R.ex t mt
      obtain ⟨f2r, h2r⟩ := gr.hh _ _ R.no rs
      refine ⟨p, _, rfl, .inl (.inl hp), rfl, _, _, rfl, _, _, rfl, rfl, rfl, _, rfl, ?_⟩
      refine ⟨_, rfl, rd, rfl, .inl ⟨kvs, .inl h2r⟩, _, rfl, Nat.zero_le _, fun e he => ⟨valV kvs (Sum.inr t.1), .inl ⟨kvs, Sum.inr t.1, .inl ((same_new _ he) _ _ h2r), rfl, rfl⟩, ?_⟩⟩
      have g3 : Grow F2 H2 F2 (upd H2 e (.tup [])) := (Grow.refl gr.fh).junk (gr.fh.free he) he _
      have d3 := same_new (.tup []) he _ _ d2
      have tu3 : Tp F2 ((valV kvs (Sum.inr t.1)).getD (.ref e)) (g t.1) := by
        rw [hu]
        exact tu.same gr.ff
      generalize upd H2 e (.tup []) = H3 at *
      refine ⟨F2, _, _, rfl, g3.fh, tu3, R.dp t mt, R.sz t mt, fun v' F4 H4 g4 t4 => ?_⟩
      have hn : (ts.map (·.1))[i]? = some t.1 := by rw [List.getElem?_map, ht]; rfl
      have nk : (Sum.inr t.1 : Key) ∉ kv2.map (·.1) := fun m => by
        rw [ek] at m
        obtain ⟨u, mu, e⟩ := List.mem_map.mp m
        have eu : u.1 = t.1 := Sum.inr.inj e
        refine nodup_take' ok.nd hn ?_
        rw [← eu, ← List.map_take]
        exact List.mem_map.mpr ⟨u, mu, rfl⟩
      have l2 : kv2.length ≤ 100 := by
        have z := congrArg List.length ek
        rw [List.length_map, List.length_map, List.length_take] at z
        omega
      obtain ⟨f4D, d4⟩ := g4.hh _ _ f2 d3
      have gA := gr.trans (g3.trans g4)
      refine ⟨kv2, Sum.inr t.1, rfl, d4, Nat.lt_of_le_of_lt l2 (by decide), F4, kv2 ++ [(Sum.inr t.1, v')], gA.junk f4D hD _, f4D, by rw [upd_same, put_new nk], ?_, ?_⟩
      · rw [List.map_append, ek, map_take _ ht]
        rfl
      · intro u mu
        rw [List.take_add_one, ht] at mu
        rcases List.mem_append.mp mu with mu | mu
        · obtain ⟨v, h1, h2⟩ := val u mu
          exact ⟨v, val_old h1, h2.same (g3.trans g4).ff⟩
        · have eu : u = t := by simpa using mu
          subst eu
          exact ⟨v', val_new nk, t4⟩
    rintro H6 ⟨F6, kv2, gr, f6D, d6, ek, val⟩
    rw [lx, List.take_length] at ek val
    have nDx : D ≠ x := Ne.symm (ne_of_none hxs hD)
    obtain ⟨f6x, h6x⟩ := gr.hh _ _ fx hxs
    refine ⟨_, rfl, x, CT, dx, _, rfl, h6x, T2.clT, T2.nRw, (by show 1 < 1000; decide), ?_⟩
    rw [stF_2]
    have e7 : ([("shape", .ref sh), ("_rows", .ref D)] : List (Str × V)) = stF sh D := rfl
    rw [e7]
    have hx7 : (upd H6 x (.ins CT dx (stF sh D))) x = some (.ins CT dx (stF sh D)) := upd_same
    have d7 : (upd H6 x (.ins CT dx (stF sh D))) D = some (.dK kv2) := by rw [upd_ne nDx]; exact d6
    have s7 : Same F6 (upd H6 x (.ins CT dx (stF sh D))) := same_put gr.fh _ f6x
    have to7 : ∀ b o, b ≠ x → H6 b = some o → (upd H6 x (.ins CT dx (stF sh D))) b = some o := fun b o n e => by rw [upd_ne n]; exact e
    generalize upd H6 x (.ins CT dx (stF sh D)) = H7 at *
    refine ⟨D, .dK kv2, d7, trivial, fun od => ?_⟩
    have hL : (upd H7 D (.frz od (.dK kv2))) D = some (.frz od (.dK kv2)) := upd_same
    have hx8 : (upd H7 D (.frz od (.dK kv2))) x = some (.ins CT dx (stF sh D)) := by rw [upd_ne (Ne.symm nDx)]; exact hx7
    have sL : Same F6 (upd H7 D (.frz od (.dK kv2))) := same_put s7 _ f6D
    have toL : ∀ b o, b ≠ D → H7 b = some o → (upd H7 D (.frz od (.dK kv2))) b = some o := fun b o n e => by rw [upd_ne n]; exact e
    generalize upd H7 D (.frz od (.dK kv2)) = HL at *
    have lk : kv2.length = ts.length := by
      have z := congrArg List.length ek
      rw [List.length_map, List.length_map] at z
      exact z
    refine ⟨_, rfl, x, CT, dx, _, _, rfl, hx8, T2.clT, T2.nRw, rfl, D, od, rfl, .inl ⟨kv2, hL, fun L hL2 => ?_⟩⟩
    refine lc_it walk_keys (fun i H' => Same HL H' ∧ H' L = some (.lst ((ts.take i).map fun t => V.int ((partsD (g t.1)).length : Int)))) ⟨same_new _ hL2, by rw [upd_same]; rfl⟩ (fun i H' _ z => z.1 _ _ hL) ?_ ?_
    · rintro i y H8 H9 hi ⟨s8, d8⟩ ⟨rfl, kk2, v0, hk, rfl⟩
      have hi2 : i < ts.length := by omega
      have ht : ts[i]? = some ts[i] := List.getElem?_eq_getElem hi2
      have ekk : kk2 = Sum.inr (ts[i]).1 := by
        have z : (kv2.map (·.1))[i]? = some kk2 := by rw [List.getElem?_map, hk]; rfl
        rw [ek, List.getElem?_map, ht] at z
        exact (Option.some.inj z).symm
      subst ekk
      have mt : ts[i] ∈ ts := List.getElem_mem hi2
      obtain ⟨v, hv, dv⟩ := val (ts[i]) mt
      rw [tupd_parts (firstD_row (bad_row hfb mt)).1] at dv
      obtain ⟨a, xs, rfl, sq, da⟩ := (dv.same (sL.trans s8)).tuple
      have la : xs.length = (partsD (g (ts[i]).1)).length := by rw [da.len, List.length_map]
      refine ⟨rfl, _, rfl, x, CT, dx, _, _, rfl, s8 _ _ hx8, T2.clT, T2.nRw, rfl, _, rfl, D, _, rfl, .inl ⟨kv2, _, .inr ⟨od, s8 _ _ hL⟩, rfl, hv.symm⟩, a, xs, rfl, .inr (.inl (.inl sq)), _, d8, take_lt _ (by omega), same_put s8 _ hL2, ?_⟩
      rw [upd_same, map_take _ ht, la]
    · rintro H8 ⟨s8, d8⟩
      rw [lk, List.take_length] at d8
      have d9 : H8 L = some (.lst ((ts.map fun t => ((partsD (g t.1)).length : Int)).map V.int)) := by rw [d8, List.map_map]; rfl
      refine ⟨L, _, rfl, .inl (.inl d9), s8 _ _ hL, _, _, rfl, rfl, _, rfl, ?_⟩
      rw [sum_total]
      refine ifd (fun hgt => absurd hgt (by omega)) fun hle => ?_
      have sE : Same (upd F6 D (.dK kv2)) (upd H8 D (.dK kv2)) := same_upd (sL.trans s8) D _
      refine kQ D (upd F6 D (.dK kv2)) _ ⟨gr.ff.trans (same_new _ f6D), sE, fun a o n e1 e2 => ?_, ?_⟩ ?_ ⟨kv2, upd_same, ek, fun t mt => ?_⟩
      · obtain ⟨q1, q2⟩ := gr.hh a o e1 (toS a o n e2)
        have nD : a ≠ D := ne_of_none (toS a o n e2) hD
        rw [upd_ne nD, upd_ne nD]
        exact ⟨q1, s8 _ _ (toL a o nD (to7 a o n q2))⟩
      · rw [upd_ne (Ne.symm nDx)]
        exact f6x
      · rw [upd_ne (Ne.symm nDx)]
        exact s8 _ _ hx8
      · obtain ⟨v, h1, h2⟩ := val t mt
        exact ⟨v, h1, h2.same (same_new _ f6D)⟩
end
end Fm

/-! ## FmSeq -/
set_option Elab.async false
set_option maxRecDepth 100000
set_option maxHeartbeats 4000000
/-! Rules for what is a list or a tuple: slices, +, *. -/
namespace Fm
open PySem PySem.Spec PyProof.Rows L2
/-- t * k that is t itself -/
theorem tup_same (l : Addr) (items : Array Value) (n : Nat) (dd : Option Addr) (sl : Array (Option Value)) (x : Int) (u : Tok) (z0 : (decide (x < -(2 ^ 63)) || decide (x ≥ 2 ^ 63)) = false) (z1 : (items.isEmpty || x == 1) = true) :
    Meets (Builtin.«tuple.__mul__» ⟨[.ref l, .int x u], []⟩) (fun _ R s => s.heap.get? l = some { cls := .type "tuple", dict := dd, data := .seq items n, slots := sl } ∧ ∀ tk, R (.ok (.ret (Value.ref l))) { s with toks := tk }) :=
  .of_wp fun prog w A R s h => by
    obtain ⟨hp, g, d, tk, os⟩ := s
    obtain ⟨hl, q⟩ := h
    have f0 := AutoSeq1.idx_int
    wp_walk using wpAny_loadPart' hl
    repeat (first
      | (refine wpAny_ite_false (decide_eq_false (by rw [z0]; exact Bool.false_ne_true)) ?_; wp_walk using wpAny_loadPart' hl)
      | (refine wpAny_ite_true (decide_eq_true z1) ?_; wp_walk using wpAny_loadPart' hl))
    exact ⟨_, rfl, q _⟩
/-- t * k, t empty or k = 1: t itself -/
def rRep1 (K : PySem.W.Frag) : R2 := fun x y H Q => ∃ l k xs, x = .ref l ∧ y = .int k ∧ SqT K H l xs ∧ (xs = [] ∨ k = 1) ∧ 0 ≤ k ∧ k ≤ 1000 ∧ Q (.ref l) H
section
variable {X : Cx}
theorem op_rep1 : OpR X (binaryOp .Mult) (rRep1 X.K) := by
  intro pins s σ H x y v u Q I rx ry h
  obtain ⟨l, k, xs, rfl, rfl, hT, hc, h1, h2, q⟩ := h
  cases rx
  obtain ⟨t, rfl⟩ := ry
  obtain ⟨its, r, ⟨⟨cls, dd, data, sl⟩, ho, hcl, n, hd⟩, hs⟩ := I.tuple hT
  simp only at hcl hd
  subst hcl hd
  have z0 : (decide (k < -(2 ^ 63)) || decide (k ≥ 2 ^ 63)) = false := by
    rw [decide_eq_false (by omega), decide_eq_false (by omega)] <;> rfl
  have z1 : (its.toArray.isEmpty || k == 1) = true := by
    rcases hc with e | e
    · rw [e] at r
      cases r
      rfl
    · rw [e]
      simp
  exact wpAny_binaryOp_repeat_ref (T := "tuple") (U := "int") (by decide) ⟨_, ho, rfl⟩ (fun s2 => typeIs_int s2 k t) noFill_tuple_mul F.fills_int_mul F.slot_int_rmul repeat_tuple F.slot_int_index.lookup (call_meets F.slot_int_rmul (typeIs_int s k t) F.entry_int_rmul (F.args_int_rmul_2 _ _)
    (int_rmul_tuple k t l its.toArray n dd sl) ⟨ho, rfl, ⟨_, ho, rfl⟩, call_meets F.slot_tuple_mul ⟨_, ho, rfl⟩ F.entry_tuple_mul (F.args_tuple_mul_2 _ _) (tup_same l its.toArray n dd sl k t z0 z1) ⟨ho, fun tk => ⟨.ref l, H, I.kept (t' := tk) fun b u z => z, rfl, q⟩⟩⟩)
/-- a slice of a list or a tuple -/
theorem sl_any : SlR X (fun x lo hi H Q => rSlL X.K x lo hi H Q ∨ rSlA X.K x lo hi H Q) := SlR.or sl_list sl_tupA
/-- two lists, two tuples, one behind the other -/
theorem op_catAny : OpR X (binaryOp .Add) (fun x y H Q => rCat x y H Q ∨ rCatA X.K x y H Q) := OpR.or op_cat op_catA
/-- a list, a tuple, so many times -/
theorem op_repAny : OpR X (binaryOp .Mult) (fun x y H Q => rRep x y H Q ∨ (rRep1 X.K x y H Q ∨ rRepT X.K x y H Q)) := OpR.or op_rep (OpR.or op_rep1 op_repT)
end
/-! ### what they do to trees -/
/-- a tree of the same kind with other parts -/
def likeD (d : PyData) (ds : List PyData) : PyData := match d with
  | .list _ => .list ds
  | _ => .tuple ds
section
variable {K : PySem.W.Frag} {F H : Hp} {Q : VK}
theorem sq_lst {a : Addr} {xs : List V} (h : H a = some (.lst xs)) : SqL K H a xs := .inl (.inl h)
theorem sq_tup {a : Addr} {xs : List V} (h : H a = some (.tup xs)) : SqT K H a xs := .inl (.inl h)
theorem like_row {d : PyData} {ds : List PyData} : isRowD (likeD d ds) = true ∧ partsD (likeD d ds) = ds := by cases d <;> exact ⟨rfl, rfl⟩
theorem like_same {d : PyData} (h : isRowD d = true) : likeD d (partsD d) = d := by cases d <;> first | rfl | cases h
/-- a slice: some part of the row -/
theorem sl_tree {v : V} {d : PyData} {lo hi : Option Int} (s : Same F H) (hv : Tp F v d) (hr : isRowD d = true) (k : ∀ u F' H', Grow F H F' H' → Tp F' u (likeD d ((partsD d).drop (HT.sIx (partsD d).length 0 lo) |>.take (HT.sIx (partsD d).length (partsD d).length hi - HT.sIx (partsD d).length 0 lo))) → Q u H') :
    rSlL K v lo hi H Q ∨ rSlA K v lo hi H Q := by
  cases d with
  | list ds =>
    obtain ⟨a, xs, rfl, hx, ha⟩ := hv.list
    refine .inl ⟨a, xs, rfl, sq_lst (s _ _ hx), fun p hp => k _ _ _ (Grow.new s _ hp) (.lst upd_same ?_)⟩
    unfold cutV
    rw [ha.len]
    exact ((ha.drop _).take _).same (same_new _ (s.free hp))
  | tuple ds =>
    obtain ⟨a, xs, rfl, hx, ha⟩ := hv.tuple
    refine .inr ⟨a, xs, rfl, sq_tup (s _ _ hx), fun e => k _ _ _ (Grow.refl s) ?_, fun _ p hp => k _ _ _ (Grow.new s _ hp) (.tup upd_same ?_)⟩
    · rw [ha.len] at e
      rw [show (partsD (PyData.tuple ds)) = ds from rfl, e.1, e.2, List.drop_zero, Nat.sub_zero, List.take_length]
      exact hv
    · unfold cutV
      rw [ha.len]
      exact ((ha.drop _).take _).same (same_new _ (s.free hp))
  | _ => cases hr
/-- two rows of one kind, one behind the other -/
theorem cat_tree {v u : V} {d : PyData} {ds es : List PyData} (s : Same F H) (hv : Tp F v (likeD d ds)) (hu : Tp F u (likeD d es)) (hl : ds.length + es.length ≤ 100000) (k : ∀ w F' H', Grow F H F' H' → Tp F' w (likeD d (ds ++ es)) → Q w H') : rCat v u H Q ∨ rCatA K v u H Q := by
  have sz : ds.length + es.length ≤ sizeLine := Nat.le_of_lt (Nat.lt_of_le_of_lt hl (by decide))
  have tupc : ∀ {a b : V}, Tp F a (.tuple ds) → Tp F b (.tuple es) → (∀ w F' H', Grow F H F' H' → Tp F' w (.tuple (ds ++ es)) → Q w H') → rCatA K a b H Q := fun ha hb k => by
    obtain ⟨a, xs, rfl, hx, ta⟩ := ha.tuple
    obtain ⟨b, ys, rfl, hy, tb⟩ := hb.tuple
    refine ⟨a, b, xs, ys, rfl, rfl, sq_tup (s _ _ hx), sq_tup (s _ _ hy), by rw [ta.len, tb.len]; exact sz, fun e => ?_, fun _ e => ?_, fun _ _ p hp => k _ _ _ (Grow.new s _ hp) (.tup upd_same ((ta.app tb).same (same_new _ (s.free hp))))⟩
    · rw [e] at ta
      cases ta
      exact k _ _ _ (Grow.refl s) hb
    · rw [e] at tb
      cases tb
      rw [List.append_nil] at k
      exact k _ _ _ (Grow.refl s) ha
  cases d with
  | list zs =>
    obtain ⟨a, xs, rfl, hx, ta⟩ := (show Tp F v (.list ds) from hv).list
    obtain ⟨b, ys, rfl, hy, tb⟩ := (show Tp F u (.list es) from hu).list
    exact .inl ⟨a, b, xs, ys, rfl, rfl, s _ _ hx, s _ _ hy, by rw [ta.len, tb.len]; exact sz, fun p hp => k _ _ _ (Grow.new s _ hp) (.lst upd_same ((ta.app tb).same (same_new _ (s.free hp))))⟩
  | none => exact .inr (tupc hv hu k)
  | bool _ => exact .inr (tupc hv hu k)
  | int _ => exact .inr (tupc hv hu k)
  | str _ => exact .inr (tupc hv hu k)
  | tuple _ => exact .inr (tupc hv hu k)
  | dict _ => exact .inr (tupc hv hu k)
/-- a row so many times -/
theorem rep_tree {v : V} {d : PyData} {ds : List PyData} {c : Nat} (s : Same F H) (hv : Tp F v (likeD d ds)) (h1 : 1 ≤ c) (hc : c ≤ 100) (hl : ds.length ≤ 1000) (k : ∀ w F' H', Grow F H F' H' → Tp F' w (likeD d (List.replicate c ds).flatten) → Q w H') :
    rRep v (.int c) H Q ∨ (rRep1 K v (.int c) H Q ∨ rRepT K v (.int c) H Q) := by
  have tupc : ∀ {a : V}, Tp F a (.tuple ds) → (∀ w F' H', Grow F H F' H' → Tp F' w (.tuple (List.replicate c ds).flatten) → Q w H') → (rRep1 K a (.int c) H Q ∨ rRepT K a (.int c) H Q) := fun ha k => by
    obtain ⟨a, xs, rfl, hx, ta⟩ := ha.tuple
    by_cases e : xs = [] ∨ (c : Int) = 1
    · refine .inl ⟨a, c, xs, rfl, rfl, sq_tup (s _ _ hx), e, by omega, by omega, k _ _ _ (Grow.refl s) ?_⟩
      rcases e with e | e
      · rw [e] at ta
        cases ta
        rw [show (List.replicate c ([] : List PyData)).flatten = [] by simp]
        exact ha
      · have ec : c = 1 := by omega
        rw [ec, show (List.replicate 1 ds).flatten = ds by simp]
        exact ha
    · refine .inr ⟨a, c, xs, rfl, rfl, sq_tup (s _ _ hx), fun z => e (.inl z), ?_, by omega, by rw [ta.len]; exact hl, fun p hp => k _ _ _ (Grow.new s _ hp) (.tup upd_same ?_)⟩
      · have z : (c : Int) ≠ 1 := fun z => e (.inr z)
        omega
      · rw [Int.toNat_natCast]
        exact (ta.rep c).same (same_new _ (s.free hp))
  cases d with
  | list zs =>
    obtain ⟨a, xs, rfl, hx, ta⟩ := (show Tp F v (.list ds) from hv).list
    refine .inl ⟨a, c, xs, rfl, rfl, s _ _ hx, by omega, by omega, ?_, fun p hp => k _ _ _ (Grow.new s _ hp) (.lst upd_same ?_)⟩
    · rw [Int.toNat_natCast, ta.len]
      exact Nat.le_of_lt (Nat.lt_of_le_of_lt (Nat.mul_le_mul hl hc) (by decide))
    · rw [Int.toNat_natCast]
      exact (ta.rep c).same (same_new _ (s.free hp))
  | none => exact .inr (tupc hv k)
  | bool _ => exact .inr (tupc hv k)
  | int _ => exact .inr (tupc hv k)
  | str _ => exact .inr (tupc hv k)
  | tuple _ => exact .inr (tupc hv k)
  | dict _ => exact .inr (tupc hv k)
end
end Fm

/-! ## FmUnl -/
set_option Elab.async false
set_option maxRecDepth 100000
set_option maxHeartbeats 4000000
/-! A text == anything of a tree. -/
namespace Fm
open PySem PySem.Spec PyProof.Rows L2
theorem sub_str_dict : isSubtype (Value.type "str") (Value.type "dict") = pure false := by rfl
theorem sub_dict_str : isSubtype (Value.type "dict") (Value.type "str") = pure false := by rfl
theorem str_eq_dict (b : Str) (u : Tok) (l : Addr) (es : Array DictEntry) (ep : Nat) :
    Meets (Builtin.«str.__eq__» ⟨[.str b u, .ref l], []⟩) (fun _ R s => s.heap.get? l = some { cls := .type "dict", dict := none, data := .dict es ep, slots := #[] } ∧ R (.ok (.ret Value.notImplemented)) s) :=
  .of_wp fun prog w A R s h => by
    obtain ⟨hp, g, d, tk, os⟩ := s
    obtain ⟨hl, q⟩ := h
    wp_walk using wpAny_loadPart' hl
    exact ⟨_, rfl, q⟩
theorem dict_eq_str (b : Str) (u : Tok) (l : Addr) (es : Array DictEntry) (ep : Nat) :
    Meets (Builtin.«dict.__eq__» ⟨[.ref l, .str b u], []⟩) (fun _ R s => s.heap.get? l = some { cls := .type "dict", dict := none, data := .dict es ep, slots := #[] } ∧ R (.ok (.ret Value.notImplemented)) s) :=
  .of_wp fun prog w A R s h => by
    obtain ⟨hp, g, d, tk, os⟩ := s
    obtain ⟨hl, q⟩ := h
    have f0 := sub_str_dict
    wp_walk using wpAny_loadPart' hl
    exact ⟨_, rfl, q⟩
/-- is it this text -/
def isStrD (s : Str) : PyData → Bool
  | .str z => decide (s = z)
  | _ => false
/-- a text == any tree -/
def rEqT : R2 := fun x y H Q => ∃ (s : Str) (d : PyData), x = .str s ∧ Tp H y d ∧ Q (.bl (isStrD s d)) H
theorem op_eqT {X : Cx} (hu : X.A.units + 64 < cLine) : OpR X (compareOp .Eq) rEqT := by
  intro pins s σ H x y v u Q I rx ry h
  obtain ⟨z, d, rfl, ht, q⟩ := h
  have hu1 : X.A.units < cLine := by omega
  have flat : ∀ {b : Bool}, scal (.str z) y = true → decide (V.str z = y) = b → Q (.bl b) H → wpAny (model X.prog X.w) X.A (compareOp .Eq v u) (EP X pins σ Q) X.xe s := fun {b} h1 h2 h3 => op_eq pins s σ H (.str z) y v u Q I rx ry ⟨h1, by rw [h2]; exact h3⟩
  cases ht with
  | non => exact flat rfl (decide_eq_false fun e => nomatch e) q
  | bl b => exact flat rfl (decide_eq_false fun e => nomatch e) q
  | int i => exact flat rfl (decide_eq_false fun e => nomatch e) q
  | str w => exact flat rfl (by show decide (V.str z = V.str w) = decide (z = w); exact decide_eq_decide.mpr ⟨V.str.inj, fun e => by rw [e]⟩) q
  | @lst a xs ds hx ha =>
    obtain ⟨t, rfl⟩ := rx
    cases ry
    obtain ⟨its, r, pl, hs⟩ := I.list (.inl (.inl hx))
    obtain ⟨⟨cls, dd, data, sl⟩, ho, hcl, n, hd⟩ : s.heap.IsList a its.toArray := by first | exact pl.isList | exact pl.list | exact pl.1 | (obtain ⟨o, h1, h2, h3, h4⟩ := pl; exact ⟨o, h1, h2, h4⟩) | (obtain ⟨o, h1, h2, h3⟩ := pl; exact ⟨o, h1, h2, h3⟩)
    simp only at hcl hd
    subst hcl hd
    exact SeqAt.rc_eq_decline_or (typeIs_str s z t) ⟨_, ho, rfl⟩ (by decide) F.sub_list_str F.slot_str_eq F.slot_list_eq_refl (fun Q' q' => call_meets F.slot_str_eq (typeIs_str s z t) F.entry_str_eq (F.args_str_eq_2 _ _) (SeqAt.str_eq_declines_seq_str z t a _ _ _ _ _) ⟨ho, q'⟩)
      (fun Q' q' => call_meets F.slot_list_eq ⟨_, ho, rfl⟩ F.entry_list_eq (F.args_list_eq_2 _ _) (SeqAt.list_eq_declines_str a _ _ _ _ z t) ⟨ho, q'⟩) (fun Q' q' => wpAny_pure q') (.inr hu1) ⟨.bl false, H, I, rfl, q⟩
  | @tup a xs ds hx ha =>
    obtain ⟨t, rfl⟩ := rx
    cases ry
    obtain ⟨its, r, ⟨⟨cls, dd, data, sl⟩, ho, hcl, n, hd⟩, hs⟩ := I.tuple (.inl (.inl hx))
    simp only at hcl hd
    subst hcl hd
    exact SeqAt.rc_eq_decline_or (typeIs_str s z t) ⟨_, ho, rfl⟩ (by decide) F.sub_tuple_str F.slot_str_eq F.slot_tuple_eq_refl (fun Q' q' => call_meets F.slot_str_eq (typeIs_str s z t) F.entry_str_eq (F.args_str_eq_2 _ _) (SeqAt.str_eq_declines_seq_str z t a _ _ _ _ _) ⟨ho, q'⟩)
      (fun Q' q' => call_meets F.slot_tuple_eq ⟨_, ho, rfl⟩ F.entry_tuple_eq (F.args_tuple_eq_2 _ _) (SeqAt.tuple_eq_declines_str a _ _ _ _ z t) ⟨ho, q'⟩) (fun Q' q' => wpAny_pure q') (.inr hu1) ⟨.bl false, H, I, rfl, q⟩
  | @dct a b hb =>
    obtain ⟨t, rfl⟩ := rx
    cases ry
    obtain ⟨kvs, hk⟩ : ∃ kvs, H a = some (.dK kvs) := by
      cases b with
      | true =>
        obtain ⟨l, h1, _⟩ := (show ∃ l, H a = some (.dK [(Sum.inr "a", .ref l)]) ∧ H l = some (.lst [.int 1]) from hb)
        exact ⟨_, h1⟩
      | false => exact ⟨_, hb⟩
    obtain ⟨_, _, vs, _, o, es, ep, ho, ⟨hc, hd, hsl⟩, hda, _⟩ := dk_of I.hok hk
    obtain ⟨cls, dd, data, sl⟩ := o
    simp only at hc hd hsl hda
    subst hc hd hsl hda
    exact SeqAt.rc_eq_decline_or (typeIs_str s z t) ⟨_, ho, rfl⟩ (by decide) sub_dict_str F.slot_str_eq F.slot_dict_eq_refl (fun Q' q' => call_meets F.slot_str_eq (typeIs_str s z t) F.entry_str_eq (F.args_str_eq_2 _ _) (str_eq_dict z t a _ _) ⟨ho, q'⟩)
      (fun Q' q' => call_meets F.slot_dict_eq ⟨_, ho, rfl⟩ F.entry_dict_eq (F.args_dict_eq_2 _ _) (dict_eq_str z t a _ _) ⟨ho, q'⟩) (fun Q' q' => wpAny_pure q') (.inr hu1) ⟨.bl false, H, I, rfl, q⟩
end Fm

/-! ## K06V -/
set_option Elab.async false
set_option maxRecDepth 100000
set_option maxHeartbeats 4000000
namespace Fm
open PySem L2
/-! ### what a store answers -/
/-- a store of the tables ts with the rows g stands at a -/
def StAt (CS CT : Addr) (F : Hp) (a : Addr) (ts : List Tab) (g : Str → PyData) : Prop := ∃ dx sh rd, F a = some (.ins CT dx (stF sh rd)) ∧ ShT CS F sh (tsD ts) ∧ RsAt F rd ts g
theorem StAt.same {CS CT : Addr} {F F' : Hp} {a : Addr} {ts : List Tab} {g : Str → PyData} (h : StAt CS CT F a ts g) (s : Same F F') : StAt CS CT F' a ts g := by
  obtain ⟨dx, sh, rd, h1, h2, h3⟩ := h
  exact ⟨dx, sh, rd, s _ _ h1, h2.same s, h3.same s⟩
theorem strD_of {s : Str} {d : PyData} (h : isStrD s d = true) : d = .str s := by
  cases d with
  | str z => exact congrArg PyData.str (of_decide_eq_true h).symm
  | _ => cases h
theorem strD_no {s : Str} {d : PyData} (h : isStrD s d = false) : d ≠ .str s := fun e => by
  rw [e] at h
  exact absurd (of_decide_eq_false h) (fun z => z rfl)
/-- no table has this name -/
def NoName (d : PyData) (ts : List Tab) : Prop := ∀ t ∈ ts, d ≠ .str t.1
section
variable {P : Program} {w : World} {K : PySem.W.Frag} {mg : Str → Option Value} {base : Heap} {CS CT CR CN CM : Addr}
/-- an error that holds what was given -/
def ErrVal (H : Hp) (v : V) (E : Option Addr → Hp → Prop) : Prop := ∀ (d : Addr), H d = none → E (some d) (upd H d (.xd [("value", v)]))
def spFieldsE (CS CN : Addr) : Sp := fun vs H Q E => ∃ (F : Hp) (sh : Addr) (v : V) (d : PyData) (ts : List Tab), vs = [.ref sh, v] ∧ Same F H ∧ Tp F v d ∧ siz d ≤ 100000 ∧ ShT CS F sh (tsD ts) ∧ TsOk ts ∧ (∀ t ∈ ts, d = .str t.1 → ∀ u, Tp F u (.tuple (t.2.map PyData.str)) → Q u H) ∧ (NoName d ts → ErrVal H v (E (.ref CN)))
abbrev s_Shape_fields_of : Stmt := inClass (topS 23) 2
abbrev sc_Shape_fields_ofN : List Str := ["self", "name", "table", "fields"]
abbrev ps_Shape_fields_of : List Str := ["self", "name"]
theorem sc_Shape_fields_of : FnScope sc_Shape_fields_ofN ps_Shape_fields_of (defScope s_Shape_fields_of) := ⟨rfl, rfl, rfl, by decide +kernel, rfl, by decide +kernel, by decide +kernel⟩
theorem ok_Shape_fields_of {f : Addr} {fd : FuncData} (F : Fun K "fields_of" "Shape.fields_of" s_Shape_fields_of f fd) (T : Txt K mg CS) (X_BadName : Xf P w K mg base "BadName" CN "value") : FnOk P w K mg base (L2.CX P w) 3 f fd ps_Shape_fields_of (spFieldsE CS CN) := by
  refine F.okX sc_Shape_fields_of (fun vs H Q E h => ?_) (fun cdv A outer s H vs Q E hr h => ?_)
  · obtain ⟨_, _, _, _, _, rfl, _⟩ := h
    rfl
  · obtain ⟨F0, sh, v, d, ts, rfl, sF, hv, hz, ⟨dx, tv, hsh, dtv⟩, ok, kQ, kE⟩ := h
    refine ⟨_, (pss_cons (ps_for PassesOwn.leaving rfl (pi_tup (pe_fld (pv 0) rfl)) (pg_tup (by rfl) (pgs_cons (pg_name (i := 2) sc_Shape_fields_of.nd rfl (Or.inl rfl)) (pgs_cons (pg_name (i := 3) sc_Shape_fields_of.nd rfl (Or.inl rfl)) pgs_nil)))
    (pss_one (ps_if (pt_cmpR (op_eqT (Nat.lt_of_le_of_lt (Nat.add_le_add_left (by decide) _) hr.units)) (pv 2) (pv 1) (nomark _))
      (pss_one (ps_ret (pv 3)))
      pss_nil)))
  (pss_one (ps_rE X_BadName (hr.mono (by decide)) (takes_of rfl rfl rfl rfl) (pv 1)))), ?_⟩
    obtain ⟨tpl, txs, rfl, htp0, hd⟩ := (show Tp F0 tv (.tuple (ts.map (tabD false))) from dtv).tuple
    have htp : SqT K H tpl txs := .inl (.inl (sF _ _ htp0))
    have lx : txs.length = ts.length := by rw [hd.len, List.length_map]
    refine ⟨_, rfl, sh, CS, dx, _, _, rfl, sF _ _ hsh, T.cl, T.nT, rfl, tpl, rfl, ⟨_, htp⟩, for_it walk_tup (fun i σ H' => ∃ v2 v3, σ = [some (.ref sh), some v, v2, v3] ∧ H = H' ∧ ∀ t ∈ ts.take i, d ≠ .str t.1)
      ⟨_, _, rfl, rfl, fun _ m => by cases m⟩ (fun i σ H' _ z => by obtain ⟨_, _, _, rfl, _⟩ := z; exact htp) ?_ ?_⟩
    · rintro i x σ H5 H6 hi ⟨v2, v3, rfl, rfl, inv⟩ ⟨rfl, hx⟩
      obtain ⟨c, hc, hxc⟩ := hd.at hx
      rw [List.getElem?_map] at hc
      obtain ⟨t, ht, rfl⟩ := Option.map_eq_some_iff.mp hc
      have mt := List.mem_of_getElem? ht
      obtain ⟨p, q, rfl, hp, hq⟩ := tab_in hxc
      refine ⟨p, _, rfl, .inl (.inl (sF _ _ hp)), rfl, _, _, rfl, _, _, rfl, rfl, ?_⟩
      refine ⟨_, rfl, _, rfl, t.1, d, rfl, hv.same sF, _, rfl, ?_⟩
      cases e : isStrD t.1 d with
      | true => exact iteT ⟨_, rfl, kQ t mt (strD_of e) _ (.tup hq (TpAll.strs t.2))⟩
      | false =>
        refine iteF ⟨_, _, rfl, rfl, fun u m => ?_⟩
        rw [List.take_add_one, ht] at m
        rcases List.mem_append.mp m with m | m
        · exact inv u m
        · have z : u = t := by simpa using m
          rw [z]
          exact strD_no e
    · rintro σ H5 ⟨v2, v3, rfl, rfl, inv⟩
      rw [lx, List.take_length] at inv
      exact ⟨_, rfl, fun d hd => kE inv d hd⟩
/-- n is the name of one of the tables -/
def spRowsOf (CS CT CN : Addr) : Sp := fun vs H Q E => ∃ (F : Hp) (a : Addr) (v : V) (d : PyData) (ts : List Tab) (g : Str → PyData), vs = [.ref a, v] ∧ Same F H ∧ Tp F v d ∧ siz d ≤ 100000 ∧ StAt CS CT F a ts g ∧ TsOk ts ∧ (∀ t ∈ ts, isRowD (g t.1) = true) ∧
  (∀ t ∈ ts, d = .str t.1 → ∀ (p : Addr) (xs : List V), H p = none → TpAll F xs (partsD (g t.1)) → Q (.ref p) (upd H p (.lst xs))) ∧ (NoName d ts → ErrVal H v (E (.ref CN)))
abbrev s_Store_rows_of : Stmt := inClass (topS 24) 2
abbrev sc_Store_rows_ofN : List Str := ["self", "name"]
abbrev ps_Store_rows_of : List Str := ["self", "name"]
theorem sc_Store_rows_of : FnScope sc_Store_rows_ofN ps_Store_rows_of (defScope s_Store_rows_of) := ⟨rfl, rfl, rfl, by decide +kernel, rfl, by decide +kernel, by decide +kernel⟩
theorem ok_Store_rows_of {f : Addr} {fd : FuncData} (F : Fun K "rows_of" "Store.rows_of" s_Store_rows_of f fd) (T : Txt K mg CS) (T2 : Tx2 K mg CT) (D_fields_of : DmX P w K mg base CS "fields_of" 3 ps_Shape_fields_of (spFieldsE CS CN)) : FnOk P w K mg base (L2.CX P w) 4 f fd ps_Store_rows_of (spRowsOf CS CT CN) := by
  refine F.okX sc_Store_rows_of (fun vs H Q E h => ?_) (fun cdv A outer s H vs Q E hr h => ?_)
  · obtain ⟨_, _, _, _, _, _, rfl, _⟩ := h
    rfl
  · obtain ⟨F0, a, v, d, ts, g, rfl, sF, hv, hz, ⟨dx, sh, rd, ha, shA, kvs, hrd, ek, val⟩, ok, rows, kQ, kE⟩ := h
    refine ⟨_, (pss_cons (ps_expr (pe_dmE (pe_fld (pv 0) rfl) T.cl D_fields_of (hr.mono (by decide)) (takes_of rfl rfl rfl rfl) (pa_cons (pv 1) pa_nil)))
  (pss_one (ps_ret (pe_callTy call_list_of (by rfl) T.n_list (by decide +kernel) (pa_cons (pe_dget (Nat.lt_of_le_of_lt (Nat.add_le_add_left (by decide) _) hr.units) (pe_fld (pv 0) rfl) (pv 1) (fun _ _ => rfl)) pa_nil))))), ?_⟩
    obtain ⟨dsh, tv, hsh, dtv⟩ := id shA
    refine ⟨_, rfl, a, CT, dx, _, _, rfl, sF _ _ ha, T2.clT, T2.nSh, rfl, sh, dsh, _, rfl, sF _ _ hsh, rfl, _, rfl, F0, sh, v, d, ts, rfl, sF, hv, hz, shA, ok, fun t mt ed u hu => ?_, kE⟩
    obtain ⟨y, hy, ty⟩ := val t mt
    obtain ⟨c, xs, rfl, hx, da⟩ := ty.row (rows t mt)
    subst ed
    rw [hv.strI]
    exact ⟨_, rfl, a, CT, dx, _, _, rfl, sF _ _ ha, T2.clT, T2.nRw, rfl, _, rfl, rd, _, rfl, .inl ⟨kvs, _, .inl (sF _ _ hrd), rfl, hy.symm⟩, c, xs, rfl, rw_sq (hx.same sF), fun l hl => kQ t mt rfl l xs hl da⟩
end
end Fm

/-! ## K06W -/
set_option Elab.async false
set_option maxRecDepth 100000
set_option maxHeartbeats 4000000
namespace Fm
open PySem L2
theorem ErrPair.sub {H H2 : Hp} {v i : V} {E : Option Addr → Hp → Prop} (h : ErrPair H v i E) (s : Same H H2) : ErrPair H2 v i E := fun d tp H' q n n2 => h d tp H' (s.trans q) (s.free n) (s.free n2)
/-- a store is made of a shape and a dict of rows -/
theorem store_make {CS CT CR : Addr} {F0 H : Hp} {x dx sh rd : Addr} {ts : List Tab} {kvs : List (Key × V)} {g : Str → PyData} {R : Hp → Prop} {E : XK} (sF : Same F0 H) (shA : ShT CS F0 sh (tsD ts)) (ok : TsOk ts) (rs : Rd1 F0 H rd kvs ts g) (nx : H x = none) (nd : H dx = none) (ne : dx ≠ x)
    (kE : ∀ t i, firstBad g ts = some (t, i) → ErrPair H (.str t) (.int i) (E (.ref CR))) (kQ : firstBad g ts = none → total g ts ≤ 300 ∧ ∀ F' H', Grow F0 H F' H' → StAt CS CT F' x ts (fun n => tupd (g n)) → R H') :
    spStInit CS CT CR [.ref x, .ref sh, .ref rd] (upd (upd H dx (.own x)) x (.ins CT dx [])) (fun z H' => z = .non ∧ R H') E := by
  have s1 : Same H (upd (upd H dx (.own x)) x (.ins CT dx [])) := fun a o e => by
    rw [upd_ne (ne_of_none e nx), upd_ne (ne_of_none e nd)]
    exact e
  refine ⟨F0, x, dx, sh, rd, ts, kvs, g, rfl, upd_same, sF.trans s1, sF.free nx, shA, ok, ⟨s1 _ _ rs.at_, rs.no, rs.key, rs.ex, rs.sz, rs.dp⟩, fun t i e => (kE t i e).sub s1, fun hfb => ⟨(kQ hfb).1, fun rd' F' H' gx hx rsA => ⟨rfl, ?_⟩⟩⟩
  have sX : Same F' (upd F' x (.ins CT dx (stF sh rd'))) := same_new _ gx.no
  refine (kQ hfb).2 _ _ ⟨gx.ff.trans sX, fun a o e => ?_, fun a o e1 e2 => ?_⟩ ⟨dx, sh, rd', upd_same, shA.same (gx.ff.trans sX), rsA.same sX⟩
  · by_cases z : a = x
    · rw [z, upd_same] at e
      rw [z, hx]
      exact e
    · rw [upd_ne z] at e
      exact gx.fh _ _ e
  · have n := ne_of_none e2 nx
    obtain ⟨z1, z2⟩ := gx.hh a o n e1 (s1 _ _ e2)
    rw [upd_ne n]
    exact ⟨z1, z2⟩
def setG (g : Str → PyData) (n : Str) (e : PyData) : Str → PyData := fun m => if m = n then e else g m
/-- rows that are not too large -/
def Sm (ts : List Tab) (g : Str → PyData) : Prop := ∀ t ∈ ts, isRowD (g t.1) = true ∧ siz (g t.1) ≤ 10000 ∧ dep (g t.1) ≤ 30
theorem keys_put {kvs : List (Key × V)} {k : Key} {z : V} (h : k ∈ kvs.map (·.1)) : (putK kvs k z).map (·.1) = kvs.map (·.1) := by
  unfold putK
  obtain ⟨kv, m, e⟩ := List.mem_map.mp h
  rw [if_pos (List.any_eq_true.mpr ⟨kv, m, decide_eq_true e⟩), List.map_map]
  refine List.map_congr_left fun u _ => ?_
  show (if u.1 = k then (u.1, z) else u).1 = u.1
  by_cases q : u.1 = k
  · rw [if_pos q]
  · rw [if_neg q]
/-- the store with e in the place of the rows of n is made, or refused -/
def Other (CS CT CR : Addr) (F0 H : Hp) (ts : List Tab) (g : Str → PyData) (Q : VK) (E : XK) : Prop :=
  (∀ t i, firstBad g ts = some (t, i) → ErrPair H (.str t) (.int i) (E (.ref CR))) ∧ (firstBad g ts = none → total g ts ≤ 300 ∧ ∀ x F' H', Grow F0 H F' H' → StAt CS CT F' x ts (fun m => tupd (g m)) → Q (.ref x) H')
theorem Other.sub {CS CT CR : Addr} {F0 H F1 H1 : Hp} {ts : List Tab} {g : Str → PyData} {Q : VK} {E : XK} (h : Other CS CT CR F0 H ts g Q E) (s : Grow F0 H F1 H1) (t : Same H H1) : Other CS CT CR F1 H1 ts g Q E :=
  ⟨fun u i e => (h.1 u i e).sub t, fun hfb => ⟨(h.2 hfb).1, fun x F' H' gr st => (h.2 hfb).2 x F' H' (s.trans gr) st⟩⟩
section
variable {P : Program} {w : World} {K : PySem.W.Frag} {mg : Str → Option Value} {base : Heap} {CS CT CR CN CM CI : Addr}
def spWithR (CS CT CR : Addr) : Sp := fun vs H Q E => ∃ (F0 : Hp) (a : Addr) (v : V) (u : Tab) (ts : List Tab) (g : Str → PyData) (e : PyData), vs = [.ref a, .str u.1, v] ∧ Same F0 H ∧ StAt CS CT F0 a ts g ∧ TsOk ts ∧ Sm ts g ∧ siz e ≤ 100000 ∧ dep e < 40 ∧ u ∈ ts ∧ Tp F0 v e ∧ Other CS CT CR F0 H ts (setG g u.1 e) Q E
abbrev s_Store__with_rows : Stmt := inClass (topS 24) 5
abbrev sc_Store__with_rowsN : List Str := ["self", "name", "rows", "changed"]
abbrev ps_Store__with_rows : List Str := ["self", "name", "rows"]
theorem sc_Store__with_rows : FnScope sc_Store__with_rowsN ps_Store__with_rows (defScope s_Store__with_rows) := ⟨rfl, rfl, rfl, by decide +kernel, rfl, by decide +kernel, by decide +kernel⟩
theorem ok_Store_with {f : Addr} {fd : FuncData} (F : Fun K "_with_rows" "Store._with_rows" s_Store__with_rows f fd) (T : Txt K mg CS) (T2 : Tx2 K mg CT) (D_Store : DcX P w K mg base "Store" CT 41 ps_Store_init (spStInit CS CT CR)) : FnOk P w K mg base (L2.CX P w) 43 f fd ps_Store__with_rows (spWithR CS CT CR) := by
  refine F.okX sc_Store__with_rows (fun vs H Q E h => ?_) (fun cdv A outer s H vs Q E hr h => ?_)
  · obtain ⟨_, _, _, _, _, _, _, rfl, _⟩ := h
    rfl
  · obtain ⟨F0, a, v, u, ts, g, e, rfl, sF, ⟨dx, sh, rd, ha, shA, kvs, hrd, ek, val⟩, ok, sm, ez, ed, mu, te, kO⟩ := h
    refine ⟨_, (pss_cons (ps_set (i := 3) sc_Store__with_rows.nd rfl (Or.inl rfl) (pe_callTy call_dictD (by rfl) T.n_dict (by decide +kernel) (pa_cons (pe_fld (pv 0) rfl) pa_nil)))
  (pss_cons (ps_asg (pv 2) (pg_sub (pv 3) (pv 1) (set_dict (Nat.lt_of_le_of_lt (Nat.add_le_add_left (by decide) _) hr.units))))
  (pss_one (ps_ret (pe_dcE D_Store (hr.mono (by decide)) (takes_of rfl rfl rfl rfl) (pa_cons (pe_fld (pv 0) rfl) (pa_cons (pv 3) pa_nil))))))), ?_⟩
    have ha1 := sF _ _ ha
    have lk : kvs.length = ts.length := by
      have z := congrArg List.length ek
      rw [List.length_map, List.length_map] at z
      exact z
    refine ⟨_, rfl, a, CT, dx, _, _, rfl, ha1, T2.clT, T2.nRw, rfl, rd, kvs, rfl, .inl (sF _ _ hrd), fun D hD => ?_⟩
    refine ⟨_, rfl, _, rfl, _, rfl, D, _, rfl, .inl ⟨kvs, Sum.inr u.1, upd_same, rfl, ?_, rfl⟩, ?_⟩
    · have z := ok.hi
      exact Nat.lt_of_le_of_lt (show kvs.length ≤ 100 by omega) (by decide)
    have hn2 : (Sum.inr u.1 : Key) ∈ kvs.map (·.1) := by
      rw [ek]
      exact List.mem_map.mpr ⟨u, mu, rfl⟩
    rw [upd_upd]
    have s1 : Same H (upd H D (.dK (putK kvs (Sum.inr u.1) v))) := same_new _ hD
    have d1 : (upd H D (.dK (putK kvs (Sum.inr u.1) v))) D = some (.dK (putK kvs (Sum.inr u.1) v)) := upd_same
    have g1 : Grow F0 H F0 (upd H D (.dK (putK kvs (Sum.inr u.1) v))) := (Grow.refl sF).junk (sF.free hD) hD _
    have f0 := sF.free hD
    generalize upd H D (.dK (putK kvs (Sum.inr u.1) v)) = H1 at *
    refine ⟨_, rfl, a, CT, dx, _, _, rfl, s1 _ _ ha1, T2.clT, T2.nSh, rfl, _, rfl, fun x dx2 nx nd ne => ?_⟩
    have rs : Rd1 F0 H1 D (putK kvs (Sum.inr u.1) v) ts (setG g u.1 e) := by
      refine ⟨d1, f0, by rw [keys_put hn2, ek], fun t mt => ?_, fun t mt => ?_, fun t mt => ?_⟩
      · rw [valV_put]
        unfold setG
        by_cases q : t.1 = u.1
        · rw [if_pos (by rw [q]), if_pos q]
          exact ⟨v, rfl, te⟩
        · rw [if_neg (fun z => q (Sum.inr.inj z)), if_neg q]
          exact val t mt
      · unfold setG
        by_cases q : t.1 = u.1
        · rw [if_pos q]
          exact ez
        · rw [if_neg q]
          have z := (sm t mt).2.1
          omega
      · unfold setG
        by_cases q : t.1 = u.1
        · rw [if_pos q]
          exact ed
        · rw [if_neg q]
          have z := (sm t mt).2.2
          omega
    have k1 := kO.sub g1 s1
    exact store_make g1.fh shA ok rs nx nd ne k1.1 fun hfb => ⟨(k1.2 hfb).1, fun F' H' gr st => (k1.2 hfb).2 x F' H' gr st⟩
theorem snoc_bd {d r : PyData} (hd : isRowD d = true) (h1 : siz d ≤ 10000) (h2 : dep d ≤ 30) (h3 : siz r ≤ 10000) (h4 : dep r ≤ 30) : siz (.list (partsD d ++ [r])) ≤ 100000 ∧ dep (.list (partsD d ++ [r])) < 40 := by
  rw [siz_row hd] at h1
  rw [dep_row hd] at h2
  refine ⟨?_, ?_⟩
  · show 1 + sizL (partsD d ++ [r]) ≤ 100000
    rw [sizL_app]
    show 1 + (sizL (partsD d) + (siz r + 0)) ≤ 100000
    omega
  · show 1 + depL (partsD d ++ [r]) < 40
    have z : depL (partsD d ++ [r]) ≤ max (depL (partsD d)) (dep r) := by
      generalize partsD d = ds
      induction ds with
      | nil => show max (dep r) 0 ≤ max 0 (dep r); omega
      | cons c ds ih => show max (dep c) (depL (ds ++ [r])) ≤ max (max (dep c) (depL ds)) (dep r); omega
    omega
def spWithRow (CS CT CR CN : Addr) : Sp := fun vs H Q E => ∃ (F0 : Hp) (a : Addr) (v r : V) (d rr : PyData) (ts : List Tab) (g : Str → PyData), vs = [.ref a, v, r] ∧ Same F0 H ∧ Tp F0 v d ∧ siz d ≤ 100000 ∧ Tp F0 r rr ∧ siz rr ≤ 10000 ∧ dep rr ≤ 30 ∧ StAt CS CT F0 a ts g ∧ TsOk ts ∧ Sm ts g ∧
  (∀ t ∈ ts, d = .str t.1 → Other CS CT CR F0 H ts (setG g t.1 (.list (partsD (g t.1) ++ [rr]))) Q E) ∧ (NoName d ts → ErrVal H v (E (.ref CN)))
abbrev s_Store_with_row : Stmt := inClass (topS 24) 3
abbrev sc_Store_with_rowN : List Str := ["self", "name", "row"]
abbrev ps_Store_with_row : List Str := ["self", "name", "row"]
theorem sc_Store_with_row : FnScope sc_Store_with_rowN ps_Store_with_row (defScope s_Store_with_row) := ⟨rfl, rfl, rfl, by decide +kernel, rfl, by decide +kernel, by decide +kernel⟩
theorem ok_Store_with_row {f : Addr} {fd : FuncData} (F : Fun K "with_row" "Store.with_row" s_Store_with_row f fd) (T : Txt K mg CS) (T2 : Tx2 K mg CT) (D_rows_of : DmX P w K mg base CT "rows_of" 4 ps_Store_rows_of (spRowsOf CS CT CN)) (D__with_rows : DmX P w K mg base CT "_with_rows" 43 ps_Store__with_rows (spWithR CS CT CR)) :
    FnOk P w K mg base (L2.CX P w) 44 f fd ps_Store_with_row (spWithRow CS CT CR CN) := by
  refine F.okX sc_Store_with_row (fun vs H Q E h => ?_) (fun cdv A outer s H vs Q E hr h => ?_)
  · obtain ⟨_, _, _, _, _, _, _, _, rfl, _⟩ := h
    rfl
  · obtain ⟨F0, a, v, r, d, rr, ts, g, rfl, sF, hv, hz, tr, rz, rd0, st, ok, sm, kO, kE⟩ := h
    refine ⟨_, (pss_one (ps_ret (pe_dmE (pv 0) T2.clT D__with_rows (hr.mono (by decide)) (takes_of rfl rfl rfl rfl) (pa_cons (pv 1) (pa_cons (pe_lst (StX.pa_star (pe_dmE (pv 0) T2.clT D_rows_of (hr.mono (by decide)) (takes_of rfl rfl rfl rfl) (pa_cons (pv 1) pa_nil)) (pa_cons (pv 2) pa_nil))) pa_nil))))), ?_⟩
    obtain ⟨dx, sh, rd, ha, _⟩ := id st
    have ha1 := sF _ _ ha
    refine ⟨_, rfl, a, dx, _, rfl, ha1, rfl, _, rfl, _, rfl, a, dx, _, rfl, ha1, rfl, _, rfl, F0, a, v, d, ts, g, rfl, sF, hv, hz, st, ok, fun t mt => (sm t mt).1, fun t mt ed p xs hp dxs => ?_, kE⟩
    subst ed
    have lx := dxs.len
    obtain ⟨m1, m2, m3⟩ := sm t mt
    obtain ⟨b1, b2⟩ := snoc_bd m1 m2 m3 rz rd0
    rw [siz_row m1] at m2
    have ll := siz_len (partsD (g t.1))
    have g1 : Grow F0 H F0 (upd H p (.lst xs)) := (Grow.refl sF).junk (sF.free hp) hp _
    have s1 : Same H (upd H p (.lst xs)) := same_new _ hp
    have p1 : (upd H p (.lst xs)) p = some (.lst xs) := upd_same
    generalize upd H p (.lst xs) = H1 at *
    refine ⟨p, xs, rfl, .inr (.inl (.inl p1)), _, rfl, (by rw [List.length_append]; exact Nat.le_of_lt (Nat.lt_of_le_of_lt (show xs.length + 1 ≤ 20000 by omega) (by decide))), fun q hq => ?_⟩
    have g2 := Grow.new g1.fh (.lst (xs ++ [r])) hq
    have s2 : Same H1 (upd H1 q (.lst (xs ++ [r]))) := same_new _ hq
    refine ⟨_, a, .ref q, t, ts, g, .list (partsD (g t.1) ++ [rr]), (by rw [hv.strI]), g2.fh, st.same g2.ff, ok, sm, b1, b2, mt, .lst upd_same ((dxs.same g2.ff).snoc (tr.same g2.ff)), (kO t mt rfl).sub (g1.trans g2) (s1.trans s2)⟩
theorem drop_bd {d : PyData} (i : Nat) (hd : isRowD d = true) (h1 : siz d ≤ 10000) (h2 : dep d ≤ 30) : siz (.list ((partsD d).take i ++ (partsD d).drop (i + 1))) ≤ 100000 ∧ dep (.list ((partsD d).take i ++ (partsD d).drop (i + 1))) < 40 := by
  rw [siz_row hd] at h1
  rw [dep_row hd] at h2
  refine ⟨?_, ?_⟩
  · show 1 + sizL ((partsD d).take i ++ (partsD d).drop (i + 1)) ≤ 100000
    rw [sizL_app]
    have z1 := sizL_take (partsD d) i
    have z2 := sizL_drop (partsD d) (i + 1)
    omega
  · show 1 + depL ((partsD d).take i ++ (partsD d).drop (i + 1)) < 40
    have z := depL_sub (es := (partsD d).take i ++ (partsD d).drop (i + 1)) (ds := partsD d) fun c m => by
      rcases List.mem_append.mp m with m | m
      · exact List.mem_of_mem_take m
      · exact List.mem_of_mem_drop m
    omega
def spWithout (CS CT CR CN CI : Addr) : Sp := fun vs H Q E => ∃ (F0 : Hp) (a : Addr) (v va : V) (d da : PyData) (ts : List Tab) (g : Str → PyData), vs = [.ref a, v, va] ∧ Same F0 H ∧ Tp F0 v d ∧ siz d ≤ 100000 ∧ Tp F0 va da ∧ StAt CS CT F0 a ts g ∧ TsOk ts ∧ Sm ts g ∧
  (∀ t ∈ ts, d = .str t.1 → (∀ i : Nat, da = .int i → i < (partsD (g t.1)).length → Other CS CT CR F0 H ts (setG g t.1 (.list ((partsD (g t.1)).take i ++ (partsD (g t.1)).drop (i + 1)))) Q E) ∧ ((∀ i : Nat, da = .int i → ¬ i < (partsD (g t.1)).length) → ∀ H', Same H H' → ErrVal H' va (E (.ref CI)))) ∧
  (NoName d ts → ErrVal H v (E (.ref CN)))
abbrev s_Store_without_row : Stmt := inClass (topS 24) 4
abbrev sc_Store_without_rowN : List Str := ["self", "name", "at", "rows"]
abbrev ps_Store_without_row : List Str := ["self", "name", "at"]
theorem sc_Store_without_row : FnScope sc_Store_without_rowN ps_Store_without_row (defScope s_Store_without_row) := ⟨rfl, rfl, rfl, by decide +kernel, rfl, by decide +kernel, by decide +kernel⟩
theorem ok_Store_without_row {f : Addr} {fd : FuncData} (F : Fun K "without_row" "Store.without_row" s_Store_without_row f fd) (T : Txt K mg CS) (T2 : Tx2 K mg CT) (X_BadIndex : Xf P w K mg base "BadIndex" CI "value") (D_is_integer : Df P w K mg base "is_integer" 1 ps_is_integer spIsInt) (D_rows_of : DmX P w K mg base CT "rows_of" 4 ps_Store_rows_of (spRowsOf CS CT CN)) (D__with_rows : DmX P w K mg base CT "_with_rows" 43 ps_Store__with_rows (spWithR CS CT CR)) :
    FnOk P w K mg base (L2.CX P w) 44 f fd ps_Store_without_row (spWithout CS CT CR CN CI) := by
  refine F.okX sc_Store_without_row (fun vs H Q E h => ?_) (fun cdv A outer s H vs Q E hr h => ?_)
  · obtain ⟨_, _, _, _, _, _, _, _, rfl, _⟩ := h
    rfl
  · obtain ⟨F0, a, v, va, d, da, ts, g, rfl, sF, hv, hz, ta, st, ok, sm, kO, kE⟩ := h
    refine ⟨_, (pss_cons (ps_set (i := 3) sc_Store_without_row.nd rfl (Or.inl rfl) (pe_dmE (pv 0) T2.clT D_rows_of (hr.mono (by decide)) (takes_of rfl rfl rfl rfl) (pa_cons (pv 1) pa_nil)))
  (pss_cons (ps_if (PW.pt (pw_or (pt_not (pt_val (pe_d D_is_integer (hr.mono (by decide)) (pa_cons (pv 2) pa_nil)))) (pw_or1 (pt_not (pt_chain op_le op_lt pe_int (pv 2) (pe_callB call_len_seq (by rfl) T.n_len (by decide +kernel) (pa_cons (pv 3) pa_nil)))))))
    (pss_one (ps_rE X_BadIndex (hr.mono (by decide)) (takes_of rfl rfl rfl rfl) (pv 2)))
    pss_nil)
  (pss_one (ps_ret (pe_dmE (pv 0) T2.clT D__with_rows (hr.mono (by decide)) (takes_of rfl rfl rfl rfl) (pa_cons (pv 1) (pa_cons (pe_op op_cat (pe_slice sl_list (pv 3) po_none (po_some (pv 2))) (pe_slice sl_list (pv 3) (po_some (pe_op op_add (pv 2) pe_int)) po_none)) pa_nil))))))), ?_⟩
    obtain ⟨dx, sh, rd, ha, _⟩ := id st
    have ha1 := sF _ _ ha
    refine ⟨_, rfl, a, dx, _, rfl, ha1, rfl, _, rfl, F0, a, v, d, ts, g, rfl, sF, hv, hz, st, ok, fun t mt => (sm t mt).1, fun t mt ed p xs hp dxs => ?_, kE⟩
    obtain ⟨kI, kX⟩ := kO t mt ed
    subst ed
    have lx := dxs.len
    obtain ⟨m1, m2, m3⟩ := sm t mt
    have g1 : Grow F0 H F0 (upd H p (.lst xs)) := (Grow.refl sF).junk (sF.free hp) hp _
    have s1 : Same H (upd H p (.lst xs)) := same_new _ hp
    have p1 : (upd H p (.lst xs)) p = some (.lst xs) := upd_same
    generalize upd H p (.lst xs) = H1 at *
    have bad : (∀ i : Nat, da = .int i → ¬ i < (partsD (g t.1)).length) → ErrVal H1 va (E (.ref CI)) := fun no => kX no _ s1
    refine ⟨_, rfl, va, da, rfl, ta.same g1.fh, _, rfl, ?_⟩
    cases da with
    | int j =>
      refine iteF ?_
      rw [ta.intI] at *
      refine ⟨_, rfl, _, _, rfl, rfl, _, rfl, ifd (fun h0 => ?_) fun h0 => ?_⟩
      · obtain ⟨i, rfl⟩ : ∃ i : Nat, j = (i : Int) := ⟨j.toNat, by omega⟩
        refine ⟨_, rfl, p, xs, rfl, .inl (.inl (.inl p1)), _, _, rfl, rfl, _, rfl, ?_⟩
        by_cases h : ((i : Nat) : Int) < ((xs.length : Nat) : Int)
        · refine ifF (by rw [decide_eq_true h]; rfl) ?_
          have hi : i < (partsD (g t.1)).length := by omega
          have kO := kI i rfl hi
          obtain ⟨b1, b2⟩ := drop_bd i m1 m2 m3
          rw [siz_row m1] at m2
          have ll := siz_len (partsD (g t.1))
          refine ⟨_, rfl, a, dx, _, rfl, s1 _ _ ha1, rfl, _, rfl, _, rfl, _, rfl, _, rfl, p, xs, rfl, .inl (.inl p1), ?_⟩
          rw [cutV_to]
          intro p0 h0
          have g2 : Grow F0 H1 F0 (upd H1 p0 (.lst (xs.take i))) := (Grow.refl g1.fh).junk (g1.fh.free h0) h0 _
          have s2 : Same H1 (upd H1 p0 (.lst (xs.take i))) := same_new _ h0
          have q0 : (upd H1 p0 (.lst (xs.take i))) p0 = some (.lst (xs.take i)) := upd_same
          generalize upd H1 p0 (.lst (xs.take i)) = H2 at *
          refine ⟨_, rfl, _, rfl, _, _, rfl, rfl, _, rfl, p, xs, rfl, .inl (.inl (s2 _ _ p1)), ?_⟩
          have e2 : cutV xs (some (((i : Nat) : Int) + 1)) none = xs.drop (i + 1) := cutV_from xs (i + 1) (by omega)
          rw [e2]
          intro p2 h2
          have g3 : Grow F0 H2 F0 (upd H2 p2 (.lst (xs.drop (i + 1)))) := (Grow.refl g2.fh).junk (g2.fh.free h2) h2 _
          have s3 : Same H2 (upd H2 p2 (.lst (xs.drop (i + 1)))) := same_new _ h2
          have q2 : (upd H2 p2 (.lst (xs.drop (i + 1)))) p2 = some (.lst (xs.drop (i + 1))) := upd_same
          generalize upd H2 p2 (.lst (xs.drop (i + 1))) = H3 at *
          refine ⟨p0, p2, _, _, rfl, rfl, s3 _ _ q0, q2, (by rw [List.length_take, List.length_drop]; exact Nat.le_of_lt (Nat.lt_of_le_of_lt (show min i xs.length + (xs.length - (i + 1)) ≤ 20000 by omega) (by decide))), fun q hq => ?_⟩
          have g4 := Grow.new g3.fh (.lst (xs.take i ++ xs.drop (i + 1))) hq
          have s4 : Same H3 (upd H3 q (.lst (xs.take i ++ xs.drop (i + 1)))) := same_new _ hq
          refine ⟨_, a, .ref q, t, ts, g, _, (by rw [hv.strI]), g4.fh, st.same g4.ff, ok, sm, b1, b2, mt, .lst upd_same (((dxs.take i).app (dxs.drop (i + 1))).same g4.ff), kO.sub (g1.trans (g2.trans (g3.trans g4))) (s1.trans (s2.trans (s3.trans s4)))⟩
        · refine ifT (by rw [decide_eq_false h]; rfl) ⟨_, rfl, fun d hd => bad (fun i2 e n => h ?_) d hd⟩
          cases e
          omega
      · refine ⟨_, rfl, iteT ⟨_, rfl, fun d hd => bad (fun i2 e n => h0 ?_) d hd⟩⟩
        cases e
        omega
    | none => exact iteT (iteT ⟨_, rfl, fun d hd => bad (fun i2 e => nomatch e) d hd⟩)
    | bool _ => exact iteT (iteT ⟨_, rfl, fun d hd => bad (fun i2 e => nomatch e) d hd⟩)
    | str _ => exact iteT (iteT ⟨_, rfl, fun d hd => bad (fun i2 e => nomatch e) d hd⟩)
    | list _ => exact iteT (iteT ⟨_, rfl, fun d hd => bad (fun i2 e => nomatch e) d hd⟩)
    | tuple _ => exact iteT (iteT ⟨_, rfl, fun d hd => bad (fun i2 e => nomatch e) d hd⟩)
    | dict _ => exact iteT (iteT ⟨_, rfl, fun d hd => bad (fun i2 e => nomatch e) d hd⟩)
end
end Fm

/-! ## K06X -/
set_option Elab.async false
set_option maxRecDepth 100000
set_option maxHeartbeats 4000000
namespace Fm
open PySem L2
/-! ### the law's own small steps -/
section
variable {P : Program} {w : World} {K : PySem.W.Frag} {mg : Str → Option Value} {base : Heap} {CS CT CR CN CM : Addr}
def spValue : Sp := fun vs H Q _ => ∃ (F : Hp) (b : Addr), vs = [.ref b] ∧ Bag F H b ∧ ∀ (z : Int) (H' : Hp), -1000000000 ≤ z → z ≤ 1000000000 → Bag F H' b → Q (.int z) H'
abbrev s_l_value : Stmt := topS 33
abbrev sc_l_valueN : List Str := ["_law_bag_here", "_law_number"]
abbrev ps_l_value : List Str := ["_law_bag_here"]
theorem sc_l_value : FnScope sc_l_valueN ps_l_value (defScope s_l_value) := ⟨rfl, rfl, rfl, by decide +kernel, rfl, by decide +kernel, by decide +kernel⟩
theorem ok_l_value {f : Addr} {fd : FuncData} (F : Fun K "_law_value" "_law_value" s_l_value f fd) (T : Txt K mg CS) (D_l_pick : Df P w K mg base "_law_pick" 1 ps_l_pick spPick) : FnOk P w K mg base CX0 2 f fd ps_l_value spValue := by
  refine F.ok sc_l_value (fun vs H Q E h => ?_) (fun cdv A outer s H vs Q E hr h => ?_)
  · obtain ⟨_, _, rfl, _⟩ := h
    rfl
  · obtain ⟨F0, b, rfl, B, k⟩ := h
    refine ⟨_, (pss_cons (ps_if (pt_cmpR op_eq (pe_d D_l_pick (hr.mono (by decide)) (pa_cons (pv 0) (pa_cons pe_int pa_nil))) pe_int (nomark _))
    (pss_cons (ps_set (i := 1) sc_l_value.nd rfl (Or.inl rfl) (pe_op op_mul (pe_d D_l_pick (hr.mono (by decide)) (pa_cons (pv 0) (pa_cons pe_int pa_nil))) pe_int))
    (pss_one (ps_ret (pe_op op_sub (pe_op op_modN (pe_callTy call_int1 (by rfl) T.n_int (by decide +kernel) (pa_cons (pe_op op_add (pv 1) (pe_d D_l_pick (hr.mono (by decide)) (pa_cons (pv 0) (pa_cons pe_int pa_nil)))) pa_nil)) (pe_op op_add (pe_op op_mul pe_int (pe_op op_pow pe_int pe_int)) pe_int)) (pe_op op_pow pe_int pe_int)))))
    pss_nil)
  (pss_one (ps_ret (pe_op op_sub (pe_d D_l_pick (hr.mono (by decide)) (pa_cons (pv 0) (pa_cons pe_int pa_nil))) pe_int)))), ?_⟩
    refine ⟨_, rfl, F0, b, 8, rfl, by decide, by decide, B, fun r0 H1 a0 a1 B1 => ⟨rfl, _, rfl, ifd (fun _ => ?_) fun _ => ?_⟩⟩
    · refine ⟨_, rfl, F0, b, 44722, rfl, by decide, by decide, B1, fun r1 H2 b0 b1 B2 => ⟨_, _, rfl, rfl, ?_⟩⟩
      have lo : ∀ m : Int, 0 ≤ m.fmod 2000000001 ∧ m.fmod 2000000001 < 2000000001 := fun m => ⟨fmod_lo (by decide), fmod_hi (by decide)⟩
      refine ⟨.inl ⟨by omega, by omega⟩, ?_⟩
      refine ⟨_, rfl, _, rfl, F0, b, 44722, rfl, by decide, by decide, B2, fun r2 H3 c0 c1 B3 => ⟨_, _, rfl, rfl, .inl ⟨_, rfl, ?_⟩⟩⟩
      refine ⟨_, _, rfl, rfl, ⟨by decide, by decide⟩, _, _, rfl, rfl, .inl ⟨by decide, by decide⟩, _, _, rfl, rfl, _, _, rfl, rfl, (by show (2 : Int) * 10 ^ (9 : Int).toNat + 1 ≠ 0; decide), _, _, rfl, rfl, ⟨by decide, by decide⟩, _, _, rfl, rfl, ?_⟩
      have z := lo (r1 * 44722 + r2)
      have e : ((2 : Int) * 10 ^ (9 : Int).toNat + 1) = 2000000001 := by decide
      show Q (V.int ((r1 * 44722 + r2).fmod (2 * 10 ^ (9 : Int).toNat + 1) - 10 ^ (9 : Int).toNat)) H3
      rw [e, show ((10 : Int) ^ (9 : Int).toNat) = 1000000000 by decide]
      exact k _ _ (by omega) (by omega) B3
    · refine ⟨_, rfl, F0, b, 5, rfl, by decide, by decide, B1, fun r1 H2 b0 b1 B2 => ⟨_, _, rfl, rfl, ?_⟩⟩
      exact k _ _ (by omega) (by omega) B2
end
end Fm

/-! ## K06Y -/
set_option Elab.async false
set_option maxRecDepth 100000
set_option maxHeartbeats 4000000
namespace Fm
open PySem L2
/-! ### the rows that are drawn -/
def RowOk (w : Nat) (r : PyData) : Prop := ∃ zs : List Int, r = .tuple (zs.map PyData.int) ∧ zs.length = w ∧ ∀ z ∈ zs, -1000000000 ≤ z ∧ z ≤ 1000000000
def RowsOk (w : Nat) (d : PyData) : Prop := ∃ R : List PyData, d = .list R ∧ R.length ≤ 9 ∧ ∀ r ∈ R, RowOk w r
theorem pick_g {P : Tab → PyData → Prop} : ∀ {ts : List Tab}, (ts.map (·.1)).Nodup → (∀ t ∈ ts, ∃ d, P t d) → ∃ g : Str → PyData, ∀ t ∈ ts, P t (g t.1)
  | [], _, _ => ⟨fun _ => .none, fun _ m => by cases m⟩
  | t :: ts, nd, h => by
    rw [List.map_cons, List.nodup_cons] at nd
    obtain ⟨d, hd⟩ := h t List.mem_cons_self
    obtain ⟨g, hg⟩ := pick_g nd.2 fun u m => h u (List.mem_cons_of_mem _ m)
    refine ⟨fun n => if n = t.1 then d else g n, fun u m => ?_⟩
    rcases List.mem_cons.mp m with rfl | m
    · show P _ (if _ then _ else _)
      rw [if_pos rfl]
      exact hd
    · have ne : u.1 ≠ t.1 := fun e => nd.1 (by rw [← e]; exact List.mem_map.mpr ⟨u, m, rfl⟩)
      show P u (if u.1 = t.1 then d else g u.1)
      rw [if_neg ne]
      exact hg u m
section
variable {P : Program} {w : World} {K : PySem.W.Frag} {mg : Str → Option Value} {base : Heap} {CS CT CR CN CM : Addr}
def spRows : Sp := fun vs H Q _ => ∃ (F : Hp) (b p : Addr) (ts : List Tab), vs = [.ref b, .ref p] ∧ Bag F H b ∧ TbAt F p ts ∧ TsOk ts ∧ ∀ (rd : Addr) (kvs : List (Key × V)) (F' H' : Hp) (g : Str → PyData), Bag (upd F' rd (.dK kvs)) H' b → Same F F' → F' rd = none → kvs.map (·.1) = ts.map (fun t => (Sum.inr t.1 : Key)) →
  (∀ t ∈ ts, (∃ v, valV kvs (Sum.inr t.1) = some v ∧ Tp F' v (g t.1)) ∧ RowsOk t.2.length (g t.1)) → Q (.ref rd) H'
abbrev s_l_rows : Stmt := topS 35
abbrev sc_l_rowsN : List Str := ["_law_bag_here", "_law_tables_here", "_law_rows_here", "_law_name_here", "_law_fields", "_law_found", "_law_k", "_law_field"]
abbrev ps_l_rows : List Str := ["_law_bag_here", "_law_tables_here"]
theorem sc_l_rows : FnScope sc_l_rowsN ps_l_rows (defScope s_l_rows) := ⟨rfl, rfl, rfl, by decide +kernel, rfl, by decide +kernel, by decide +kernel⟩
theorem ok_l_rows {f : Addr} {fd : FuncData} (F : Fun K "_law_rows" "_law_rows" s_l_rows f fd) (T : Txt K mg CS) (D_l_pick : Df P w K mg base "_law_pick" 1 ps_l_pick spPick) (D_l_value : Df P w K mg base "_law_value" 2 ps_l_value spValue) : FnOk P w K mg base CX0 3 f fd ps_l_rows spRows := by
  refine F.ok sc_l_rows (fun vs H Q E h => ?_) (fun cdv A outer s H vs Q E hr h => ?_)
  · obtain ⟨_, _, _, _, rfl, _⟩ := h
    rfl
  · obtain ⟨F0, b, p, ts, rfl, B, ⟨xs, hp, ta⟩, ok, k⟩ := h
    refine ⟨_, (pss_cons (ps_set (i := 2) sc_l_rows.nd rfl (Or.inl rfl) pe_dnewK)
  (pss_cons (ps_for PassesOwn.never rfl (pi_list (pv 1)) (pg_tup (by rfl) (pgs_cons (pg_name (i := 3) sc_l_rows.nd rfl (Or.inl rfl)) (pgs_cons (pg_name (i := 4) sc_l_rows.nd rfl (Or.inl rfl)) pgs_nil)))
    (pss_cons (ps_set (i := 5) sc_l_rows.nd rfl (Or.inl rfl) (pe_lst pa_nil))
    (pss_cons (ps_for PassesOwn.never rfl (pi_range1 (by rfl) T.n_range (pa_cons (pe_ix ix_list (pe_lst (pa_cons pe_int (pa_cons pe_int (pa_cons pe_int (pa_cons pe_int (pa_cons pe_int (pa_cons pe_int (pa_cons pe_int (pa_cons pe_int pa_nil))))))))) (pe_d D_l_pick (hr.mono (by decide)) (pa_cons (pv 0) (pa_cons pe_int pa_nil))) (fun _ _ => rfl)) pa_nil)) (pg_name (i := 6) sc_l_rows.nd rfl (Or.inl rfl))
      (pss_one (ps_if (PW.pt (pw_and (pt_cmpR op_gt (pv 6) pe_int (nomark _)) (pw_and1 (pt_cmpR op_eq (pe_d D_l_pick (hr.mono (by decide)) (pa_cons (pv 0) (pa_cons pe_int pa_nil))) pe_int (nomark _)))))
        (pss_one (ps_expr (pe_bm PySem.F.plainAttrs_list PySem.F.slot_list_append PySem.F.type_list_append mt_append (pv 5) (pa_cons (pe_ix ix_list (pv 5) (pe_d D_l_pick (hr.mono (by decide)) (pa_cons (pv 0) (pa_cons (pe_callB call_len_seq (by rfl) T.n_len (by decide +kernel) (pa_cons (pv 5) pa_nil)) pa_nil))) (fun _ _ => rfl)) pa_nil))))
        (pss_one (ps_expr (pe_bm PySem.F.plainAttrs_list PySem.F.slot_list_append PySem.F.type_list_append mt_append (pv 5) (pa_cons (pe_callTy call_tuple_of (by rfl) T.n_tuple (by decide +kernel) (pa_cons (pe_lc (own := [("_law_field", 7)]) (g := gName 7) (tt := tYes) (by rfl) sc_l_rows.nd (pi_tup (pv 4)) (blkOk_by (own := [("_law_field", 7)]) (N := sc_l_rowsN) (sc := defScope s_l_rows) (by decide +kernel)) (fun _ _ _ _ _ => pg_name (i := 7) sc_l_rows.nd rfl (Or.inl rfl)) (fun _ _ _ _ _ => pts_nil) (fun _ _ _ _ _ => (pe_d D_l_value (hr.mono (by decide)) (pa_cons (pv 0) pa_nil)))) pa_nil)) pa_nil)))))))
    (pss_one (ps_asg (pv 5) (pg_sub (pv 2) (pv 3) (set_dict (Nat.lt_of_le_of_lt (Nat.add_le_add_left (by decide) _) hr.units))))))))
  (pss_one (ps_ret (pv 2))))), ?_⟩
    have lx : xs.length = ts.length := by rw [ta.len, List.length_map]
    have lo := ok.hi
    refine fun rd hrd => ?_
    have B1 := B.new (.dK []) hrd
    have f0r := B.fh.free hrd
    generalize upd H rd (.dK []) = H1 at *
    have hp1 : ∀ {G H' : Hp} {kvs : List (Key × V)}, Same F0 G → G rd = none → Bag (upd G rd (.dK kvs)) H' b → SqL K H' p xs := fun s n B => .inl (.inl (B.fh _ _ (by rw [upd_ne (ne_of_none (s _ _ hp) n)]; exact s _ _ hp)))
    refine ⟨_, rfl, p, rfl, ⟨_, hp1 (Same.refl _) f0r B1⟩, for_it walk_list (fun i σ H' => ∃ (G : Hp) (kvs : List (Key × V)) (v3 v4 v5 v6 v7 : Option V), σ = [some (.ref b), some (.ref p), some (.ref rd), v3, v4, v5, v6, v7] ∧ Same F0 G ∧ G rd = none ∧ Bag (upd G rd (.dK kvs)) H' b ∧ kvs.map (·.1) = (ts.take i).map (fun t => (Sum.inr t.1 : Key)) ∧ ∀ t ∈ ts.take i, ∃ d, (∃ v, valV kvs (Sum.inr t.1) = some v ∧ Tp G v d) ∧ RowsOk t.2.length d)
      ⟨F0, [], _, _, _, _, _, rfl, Same.refl _, f0r, B1, rfl, fun t m => by cases m⟩ (fun i σ H' _ z => by obtain ⟨G, kvs, _, _, _, _, _, _, sG, gr, B2, _⟩ := z; exact hp1 sG gr B2) ?_ ?_⟩
    · rintro i x σ H3 H2 hi ⟨G0, kvs, v3, v4, v5, v6, v7, rfl, sG0, gr0, B2, ek, val⟩ ⟨rfl, hx⟩
      obtain ⟨c0, hc0, hxc⟩ := ta.at hx
      rw [List.getElem?_map] at hc0
      obtain ⟨t, ht, rfl⟩ := Option.map_eq_some_iff.mp hc0
      have mt := List.mem_of_getElem? ht
      obtain ⟨p1, c, rfl, hp2, hc⟩ := tab_in hxc
      have lf := (ok.ok t mt).fs.hi
      have to0 : ∀ a o, F0 a = some o → H2 a = some o := fun a o e => B2.fh _ _ (by rw [upd_ne (ne_of_none (sG0 _ _ e) gr0)]; exact sG0 _ _ e)
      refine ⟨p1, _, rfl, .inl (.inl (to0 _ _ hp2)), rfl, _, _, rfl, _, _, rfl, rfl, ?_⟩
      refine ⟨Nat.zero_le _, fun q hq => ?_⟩
      have B3 := B2.new (.lst []) hq
      have fq := B2.fh.free hq
      have nrq : rd ≠ q := ne_of_none (upd_same : (upd G0 rd (.dK kvs)) rd = some (.dK kvs)) fq
      have gq0 : G0 q = none := by rw [upd_ne (Ne.symm nrq)] at fq; exact fq
      refine ⟨(by show 8 ≤ sizeLine; decide), fun m hm => ⟨_, rfl, _, b, 8, rfl, by decide, by decide, B3.new _ hm, fun r H4 r0 r1 B4 => ?_⟩⟩
      obtain ⟨v, hv, hvm⟩ := at_mem (xs := ([2, 3, 4, 1, 5, 0, 3, 9] : List Int).map V.int) r0 r1
      obtain ⟨z, hz, rfl⟩ := List.mem_map.mp hvm
      have z9 : 0 ≤ z ∧ z ≤ 9 := by
        have all : ∀ z ∈ ([2, 3, 4, 1, 5, 0, 3, 9] : List Int), 0 ≤ z ∧ z ≤ 9 := by decide
        exact all z hz
      have B5 := bag_sub (F := upd (upd G0 rd (.dK kvs)) q (.lst [])) (fun a o e => by rw [upd_ne (ne_of_none (B3.fh _ _ e) hm)]; exact e) B4
      refine ⟨m, _, _, _, rfl, rfl, .inl (.inl (B4.fh _ _ upd_same)), hv, z, rfl, by omega, by omega, ?_⟩
      refine for_range (lo := 0) (n := z.toNat) (fun j σ H' => ∃ (G : Hp) (R : List PyData) (xs2 : List V) (v6 v7 : Option V), σ = [some (.ref b), some (.ref p), some (.ref rd), some (.str t.1), some (.ref c), some (.ref q), v6, v7] ∧ Same G0 G ∧ G rd = none ∧ G q = none ∧ Bag (upd (upd G rd (.dK kvs)) q (.lst xs2)) H' b ∧ TpAll G xs2 R ∧ R.length = j ∧ ∀ r ∈ R, RowOk t.2.length r) ?_ ?_ ?_
      · exact ⟨G0, [], [], _, _, rfl, Same.refl _, gr0, gq0, B5, .nil, rfl, fun _ m => by cases m⟩
      · rintro j σ H6 hj ⟨G, R, xs2, v6, v7, rfl, sG, gr, gq, B6, tR, lR, okR⟩
        rw [show (0 : Int) + (j : Nat) = (j : Nat) from Int.zero_add _]
        have hc2 := sG _ _ (sG0 _ _ hc)
        have toS : ∀ a o, G a = some o → (upd (upd G rd (.dK kvs)) q (.lst xs2)) a = some o := fun a o e => by rw [upd_ne (ne_of_none e gq), upd_ne (ne_of_none e gr)]; exact e
        have toB : ∀ H', Bag (upd (upd G rd (.dK kvs)) q (.lst xs2)) H' b → ∀ a o, G a = some o → H' a = some o := fun H' B a o e => B.fh _ _ (toS a o e)
        have lx2 := tR.len
        refine ⟨_, rfl, _, _, rfl, rfl, _, rfl, ifd (fun hj0 => ?_) fun _ => ?_⟩
        · refine ⟨_, rfl, _, b, 6, rfl, by decide, by decide, B6, fun r6 H7 r60 r61 B7 => ⟨rfl, _, rfl, ifd (fun _ => ?_) fun _ => ?_⟩⟩
          · refine ⟨_, rfl, .inl ⟨rfl, _, .inl (.inl (B7.fh _ _ upd_same))⟩, _, rfl, _, rfl, _, rfl, q, xs2, rfl, .inl (.inl (.inl (B7.fh _ _ upd_same))), _, b, (xs2.length : Int), rfl, by omega, by omega, B7, fun r8 H8 r80 r81 B8 => ?_⟩
            obtain ⟨i2, rfl⟩ : ∃ i2 : Nat, r8 = (i2 : Int) := ⟨r8.toNat, by omega⟩
            have hi2 : xs2[i2]? = some (xs2[i2]'(by omega)) := List.getElem?_eq_getElem _
            obtain ⟨dr, hdr, tdr⟩ := tR.at hi2
            refine ⟨q, xs2, _, _, rfl, rfl, .inl (.inl (B8.fh _ _ upd_same)), atI_nat hi2, ?_⟩
            have B9 := B8.put (.lst (xs2 ++ [xs2[i2]'(by omega)])) upd_same
            rw [upd_upd] at B9
            refine ⟨q, xs2, _, rfl, rfl, B8.fh _ _ upd_same, (by rw [lx2]; exact Nat.lt_of_le_of_lt (show R.length ≤ 100 by omega) (by decide)), G, R ++ [dr], _, _, _, rfl, sG, gr, gq, B9, tR.snoc tdr, by rw [List.length_append, lR]; rfl, fun r m => ?_⟩
            rcases List.mem_append.mp m with m | m
            · exact okR r m
            · rw [List.mem_singleton.mp m]
              exact okR _ (List.mem_of_getElem? hdr)
          · have Bx := B7
            refine ⟨_, rfl, .inl ⟨rfl, _, .inl (.inl (Bx.fh _ _ upd_same))⟩, _, rfl, c, rfl, ⟨_, .inl (.inl (toB _ Bx _ _ hc2))⟩, fun D hD => ?_⟩
            have fD : (upd (upd G rd (.dK kvs)) q (.lst xs2)) D = none := Bx.fh.free hD
            refine lc_it (walk_tup (xs := t.2.map V.str)) (fun e H' => ∃ zs : List Int, zs.length = e ∧ (∀ z ∈ zs, -1000000000 ≤ z ∧ z ≤ 1000000000) ∧ Bag (upd (upd (upd G rd (.dK kvs)) q (.lst xs2)) D (.lst (zs.map V.int))) H' b) ⟨[], rfl, (fun _ z => by cases z), Bx.new _ hD⟩ (fun e H' _ z => ?_) ?_ ?_
            · obtain ⟨zs, _, _, B5⟩ := z
              exact .inl (.inl (B5.fh _ _ (by rw [upd_ne (ne_of_none (toS _ _ hc2) fD)]; exact toS _ _ hc2)))
            · rintro e z0 H5 H6 he ⟨zs, lz2, vz, B5⟩ ⟨rfl, hx2⟩
              rw [List.length_map] at he
              refine ⟨rfl, _, rfl, _, b, rfl, B5, fun z H7 z1 z2 B7 => ⟨_, B7.fh _ _ upd_same, by rw [List.length_map]; exact Nat.lt_of_le_of_lt (show zs.length ≤ 100 by omega) (by decide), zs ++ [z], by rw [List.length_append, lz2]; rfl, fun y my => ?_, ?_⟩⟩
              · rcases List.mem_append.mp my with my | my
                · exact vz y my
                · rw [List.mem_singleton.mp my]
                  exact ⟨z1, z2⟩
              · have y := B7.put (.lst ((zs ++ [z]).map V.int)) upd_same
                rw [upd_upd, List.map_append] at y
                rw [List.map_append]
                exact y
            rintro H5 ⟨zs, lz, vz, B5⟩
            rw [List.length_map] at lz
            refine ⟨D, _, rfl, .inl ⟨.inl (.inl (B5.fh _ _ upd_same)), fun l hl => ?_⟩⟩
            have fl : (upd (upd G rd (.dK kvs)) q (.lst xs2)) l = none := by
              cases z : (upd (upd G rd (.dK kvs)) q (.lst xs2)) l with
              | none => rfl
              | some o =>
                have y : H5 l = some o := B5.fh _ _ (by rw [upd_ne (ne_of_none z fD)]; exact z)
                rw [hl] at y
                cases y
            have B6 := bag_sub (F := upd (upd (upd G rd (.dK kvs)) q (.lst xs2)) l (.tup (zs.map V.int))) (fun a o e => by
              by_cases z : a = l
              · rw [z, upd_same] at e ⊢
                exact e
              · rw [upd_ne z] at e ⊢
                rw [upd_ne (ne_of_none e fD)]
                exact e) (B5.new (.tup (zs.map V.int)) hl)
            have nql : q ≠ l := ne_of_none (upd_same : (upd (upd G rd (.dK kvs)) q (.lst xs2)) q = some (.lst xs2)) fl
            have nrl : rd ≠ l := ne_of_none (show (upd (upd G rd (.dK kvs)) q (.lst xs2)) rd = some (.dK kvs) by rw [upd_ne nrq, upd_same]) fl
            have gl : G l = none := by rw [upd_ne (Ne.symm nql), upd_ne (Ne.symm nrl)] at fl; exact fl
            have B7 := B6.put (.lst (xs2 ++ [.ref l])) (show (upd (upd (upd G rd (.dK kvs)) q (.lst xs2)) l (.tup (zs.map V.int))) q = some (.lst xs2) by rw [upd_ne nql, upd_same])
            have sl : Same G (upd G l (.tup (zs.map V.int))) := same_new _ gl
            refine ⟨q, xs2, _, rfl, rfl, B6.fh _ _ (by rw [upd_ne nql, upd_same]), (by rw [tR.len]; exact Nat.lt_of_le_of_lt (show R.length ≤ 100 by omega) (by decide)), upd G l (.tup (zs.map V.int)), R ++ [.tuple (zs.map PyData.int)], xs2 ++ [.ref l], _, _, rfl, sG.trans sl, by rw [upd_ne nrl]; exact gr, by rw [upd_ne nql]; exact gq, bag_sub (fun a o e => ?_) B7, (tR.same sl).snoc (.tup upd_same (TpAll.ints zs)), by rw [List.length_append, lR]; rfl, fun r m => ?_⟩
            · by_cases z1 : a = q
              · rw [z1, upd_same] at e ⊢
                exact e
              · rw [upd_ne z1] at e ⊢
                by_cases z2 : a = rd
                · rw [z2, upd_same] at e
                  rw [z2, upd_ne nrl, upd_ne nrq, upd_same]
                  exact e
                · rw [upd_ne z2] at e
                  by_cases z3 : a = l
                  · rw [z3, upd_same] at e ⊢
                    exact e
                  · rw [upd_ne z3] at e ⊢
                    rw [upd_ne z1, upd_ne z2]
                    exact e
            · rcases List.mem_append.mp m with m | m
              · exact okR r m
              · exact ⟨zs, List.mem_singleton.mp m, lz, vz⟩
        · have Bx := B6
          refine ⟨_, rfl, .inl ⟨rfl, _, .inl (.inl (Bx.fh _ _ upd_same))⟩, _, rfl, c, rfl, ⟨_, .inl (.inl (toB _ Bx _ _ hc2))⟩, fun D hD => ?_⟩
          have fD : (upd (upd G rd (.dK kvs)) q (.lst xs2)) D = none := Bx.fh.free hD
          refine lc_it (walk_tup (xs := t.2.map V.str)) (fun e H' => ∃ zs : List Int, zs.length = e ∧ (∀ z ∈ zs, -1000000000 ≤ z ∧ z ≤ 1000000000) ∧ Bag (upd (upd (upd G rd (.dK kvs)) q (.lst xs2)) D (.lst (zs.map V.int))) H' b) ⟨[], rfl, (fun _ z => by cases z), Bx.new _ hD⟩ (fun e H' _ z => ?_) ?_ ?_
          · obtain ⟨zs, _, _, B5⟩ := z
            exact .inl (.inl (B5.fh _ _ (by rw [upd_ne (ne_of_none (toS _ _ hc2) fD)]; exact toS _ _ hc2)))
          · rintro e z0 H5 H6 he ⟨zs, lz2, vz, B5⟩ ⟨rfl, hx2⟩
            rw [List.length_map] at he
            refine ⟨rfl, _, rfl, _, b, rfl, B5, fun z H7 z1 z2 B7 => ⟨_, B7.fh _ _ upd_same, by rw [List.length_map]; exact Nat.lt_of_le_of_lt (show zs.length ≤ 100 by omega) (by decide), zs ++ [z], by rw [List.length_append, lz2]; rfl, fun y my => ?_, ?_⟩⟩
            · rcases List.mem_append.mp my with my | my
              · exact vz y my
              · rw [List.mem_singleton.mp my]
                exact ⟨z1, z2⟩
            · have y := B7.put (.lst ((zs ++ [z]).map V.int)) upd_same
              rw [upd_upd, List.map_append] at y
              rw [List.map_append]
              exact y
          rintro H5 ⟨zs, lz, vz, B5⟩
          rw [List.length_map] at lz
          refine ⟨D, _, rfl, .inl ⟨.inl (.inl (B5.fh _ _ upd_same)), fun l hl => ?_⟩⟩
          have fl : (upd (upd G rd (.dK kvs)) q (.lst xs2)) l = none := by
            cases z : (upd (upd G rd (.dK kvs)) q (.lst xs2)) l with
            | none => rfl
            | some o =>
              have y : H5 l = some o := B5.fh _ _ (by rw [upd_ne (ne_of_none z fD)]; exact z)
              rw [hl] at y
              cases y
          have B6 := bag_sub (F := upd (upd (upd G rd (.dK kvs)) q (.lst xs2)) l (.tup (zs.map V.int))) (fun a o e => by
            by_cases z : a = l
            · rw [z, upd_same] at e ⊢
              exact e
            · rw [upd_ne z] at e ⊢
              rw [upd_ne (ne_of_none e fD)]
              exact e) (B5.new (.tup (zs.map V.int)) hl)
          have nql : q ≠ l := ne_of_none (upd_same : (upd (upd G rd (.dK kvs)) q (.lst xs2)) q = some (.lst xs2)) fl
          have nrl : rd ≠ l := ne_of_none (show (upd (upd G rd (.dK kvs)) q (.lst xs2)) rd = some (.dK kvs) by rw [upd_ne nrq, upd_same]) fl
          have gl : G l = none := by rw [upd_ne (Ne.symm nql), upd_ne (Ne.symm nrl)] at fl; exact fl
          have B7 := B6.put (.lst (xs2 ++ [.ref l])) (show (upd (upd (upd G rd (.dK kvs)) q (.lst xs2)) l (.tup (zs.map V.int))) q = some (.lst xs2) by rw [upd_ne nql, upd_same])
          have sl : Same G (upd G l (.tup (zs.map V.int))) := same_new _ gl
          refine ⟨q, xs2, _, rfl, rfl, B6.fh _ _ (by rw [upd_ne nql, upd_same]), (by rw [tR.len]; exact Nat.lt_of_le_of_lt (show R.length ≤ 100 by omega) (by decide)), upd G l (.tup (zs.map V.int)), R ++ [.tuple (zs.map PyData.int)], xs2 ++ [.ref l], _, _, rfl, sG.trans sl, by rw [upd_ne nrl]; exact gr, by rw [upd_ne nql]; exact gq, bag_sub (fun a o e => ?_) B7, (tR.same sl).snoc (.tup upd_same (TpAll.ints zs)), by rw [List.length_append, lR]; rfl, fun r m => ?_⟩
          · by_cases z1 : a = q
            · rw [z1, upd_same] at e ⊢
              exact e
            · rw [upd_ne z1] at e ⊢
              by_cases z2 : a = rd
              · rw [z2, upd_same] at e
                rw [z2, upd_ne nrl, upd_ne nrq, upd_same]
                exact e
              · rw [upd_ne z2] at e
                by_cases z3 : a = l
                · rw [z3, upd_same] at e ⊢
                  exact e
                · rw [upd_ne z3] at e ⊢
                  rw [upd_ne z1, upd_ne z2]
                  exact e
          · rcases List.mem_append.mp m with m | m
            · exact okR r m
            · exact ⟨zs, List.mem_singleton.mp m, lz, vz⟩
      · rintro σ H6 ⟨G, R, xs2, v6, v7, rfl, sG, gr, gq, B6, tR, lR, okR⟩
        have hn : (ts.map (·.1))[i]? = some t.1 := by rw [List.getElem?_map, ht]; rfl
        have nk : (Sum.inr t.1 : Key) ∉ kvs.map (·.1) := fun m => by
          rw [ek] at m
          obtain ⟨u, mu, e⟩ := List.mem_map.mp m
          have eu : u.1 = t.1 := Sum.inr.inj e
          refine nodup_take' ok.nd hn ?_
          rw [← eu, ← List.map_take]
          exact List.mem_map.mpr ⟨u, mu, rfl⟩
        have l2 : kvs.length ≤ 100 := by
          have z := congrArg List.length ek
          rw [List.length_map, List.length_map, List.length_take] at z
          omega
        have B7 := B6.put (.dK (kvs ++ [(Sum.inr t.1, .ref q)])) (show (upd (upd G rd (.dK kvs)) q (.lst xs2)) rd = some (.dK kvs) by rw [upd_ne nrq, upd_same])
        have sq : Same G (upd G q (.lst xs2)) := same_new _ gq
        refine ⟨_, rfl, _, rfl, _, rfl, rd, _, rfl, .inl ⟨kvs, Sum.inr t.1, B6.fh _ _ (by rw [upd_ne nrq, upd_same]), rfl, Nat.lt_of_le_of_lt l2 (by decide), rfl⟩, ?_⟩
        rw [put_new nk]
        refine ⟨upd G q (.lst xs2), kvs ++ [(Sum.inr t.1, .ref q)], _, _, _, _, _, rfl, (sG0.trans sG).trans sq, by rw [upd_ne nrq]; exact gr, bag_sub (fun a o e => ?_) B7, ?_, fun u mu => ?_⟩
        · by_cases z1 : a = rd
          · rw [z1, upd_same] at e ⊢
            exact e
          · rw [upd_ne z1] at e ⊢
            by_cases z2 : a = q
            · rw [z2, upd_same] at e ⊢
              exact e
            · rw [upd_ne z2] at e ⊢
              rw [upd_ne z1]
              exact e
        · rw [List.map_append, ek, map_take _ ht]
          rfl
        · rw [List.take_add_one, ht] at mu
          rcases List.mem_append.mp mu with mu | mu
          · obtain ⟨d, ⟨v, h1, h2⟩, h3⟩ := val u mu
            exact ⟨d, ⟨v, val_old h1, h2.same (sG.trans sq)⟩, h3⟩
          · have eu : u = t := by simpa using mu
            subst eu
            exact ⟨.list R, ⟨.ref q, val_new nk, .lst upd_same (tR.same sq)⟩, R, rfl, by omega, okR⟩
    · rintro σ H2 ⟨G, kvs, v3, v4, v5, v6, v7, rfl, sG, gr, B2, ek, val⟩
      rw [lx, List.take_length] at ek val
      obtain ⟨g, hg⟩ := pick_g (P := fun t d => (∃ v, valV kvs (Sum.inr t.1) = some v ∧ Tp G v d) ∧ RowsOk t.2.length d) ok.nd val
      exact ⟨_, rfl, k rd kvs G H2 g B2 sG gr ek hg⟩
end
end Fm

/-! ## FmDict -/
set_option Elab.async false
set_option maxRecDepth 100000
set_option maxHeartbeats 4000000
/-! == and != of two dicts whose values are plain data at any depth. -/
theorem L2.Room.units66 {k : Nat} {A : PySem.Around} (r : L2.Room k A) : A.units + 66 < PySem.cLine := by have := r.un; omega
namespace Fm
open PySem PySem.Spec PyProof.Rows L2
/-- the pairs of a dict, its values as data -/
inductive KD (K : PySem.W.Frag) (H : Hp) : List (Key × V) → List (Key × PyData) → Prop
  | nil : KD K H [] []
  | cons {k : Key} {v : V} {d : PyData} {kvs : List (Key × V)} {ms : List (Key × PyData)} : Dp K H v d → SeqAt.shaped d = true → KD K H kvs ms → KD K H ((k, v) :: kvs) ((k, d) :: ms)
def valD (ns : List (Key × PyData)) (k : Key) : Option PyData := (ns.find? fun p => decide (p.1 = k)).map (·.2)
def hitD (ns : List (Key × PyData)) (p : Key × PyData) : Bool := match valD ns p.1 with
  | some e => PyData.eqv p.2 e
  | none => false
def eqKD (ms ns : List (Key × PyData)) : Bool := ms.length == ns.length && ms.all (hitD ns)
theorem KD.len {K : PySem.W.Frag} {H : Hp} {kvs : List (Key × V)} {ms : List (Key × PyData)} (h : KD K H kvs ms) : kvs.length = ms.length := by
  induction h with
  | nil => rfl
  | cons _ _ _ ih => rw [List.length_cons, List.length_cons, ih]
theorem KD.val {K : PySem.W.Frag} {H : Hp} {kvs : List (Key × V)} {ms : List (Key × PyData)} (h : KD K H kvs ms) (k : Key) : (valV kvs k = none ∧ valD ms k = none) ∨ ∃ v d, valV kvs k = some v ∧ valD ms k = some d ∧ Dp K H v d ∧ SeqAt.shaped d = true := by
  induction h with
  | nil => exact .inl ⟨rfl, rfl⟩
  | @cons k2 v d kvs ms h1 h2 _ ih =>
    unfold valV valD at *
    by_cases q : k2 = k
    · rw [List.find?_cons_of_pos (by simp [q]), List.find?_cons_of_pos (by simp [q])]
      exact .inr ⟨v, d, rfl, rfl, h1, h2⟩
    · rw [List.find?_cons_of_neg (by simp [q]), List.find?_cons_of_neg (by simp [q])]
      exact ih
theorem kd_hits {X : Cx} {pins : List (Addr × Obj)} {σ : L2.St} {H : Hp} {s : Shared} {A : Around} (I : Inv X pins σ H s) (hu : A.in1.units + 64 < cLine) {ls : List (Key × V)} {ns : List (Key × PyData)} (hb : KD X.K H ls ns) {vb : List (Key × Value)} (rb : KV ls vb) {ks : List (Key × V)} {ms : List (Key × PyData)}
    (ha : KD X.K H ks ms) : ∀ {va : List (Key × Value)}, KV ks va → PySem.W.KeqHits A.in1 s vb va (ms.all (hitD ns)) := by
  induction ha with
  | nil =>
    intro va ra
    unfold KV at ra
    cases ra
    exact .nil
  | @cons k v d kvs ms h1 h2 _ ih =>
    intro va ra
    unfold KV at ra
    cases ra with
    | @cons _ q _ qs h t =>
    obtain ⟨e1, e2⟩ := h
    obtain ⟨key, u⟩ := q
    have e1' : k = key := e1
    subst e1'
    rw [List.all_cons]
    rcases hb.val k with ⟨z1, z2⟩ | ⟨y, e, z1, z2, z3, z4⟩
    · have rr := rb.val k
      rw [z1] at rr
      have hn : valueAt vb k = none := by
        cases q : valueAt vb k with
        | none => rfl
        | some z =>
          rw [q] at rr
          cases rr
      have hh : hitD ns (k, d) = false := by
        unfold hitD
        rw [show valD ns ((k, d) : Key × PyData).1 = none from z2]
      rw [hh, Bool.false_and]
      exact .miss hn
    · have rr : RelO (some y) (valueAt vb k) := by
        rw [← z1]
        exact rb.val k
      obtain ⟨z, hz, rz⟩ := rr.some_of
      have hh : hitD ns (k, d) = PyData.eqv d e := by
        unfold hitD
        rw [show valD ns ((k, d) : Key × PyData).1 = some e from z2]
      rw [hh]
      obtain ⟨as, r1⟩ := Dp.reads I d v u h1 e2
      obtain ⟨bs, r2⟩ := Dp.reads I e y z z3 rz
      exact .hit hz (PySem.W.keq_at r1 r2 h2 z4 hu) (ih t)
section
variable {X : Cx}
/-- a == b, two dicts of data -/
def rEqK (K : PySem.W.Frag) : R2 := fun x y H Q => ∃ a b ks ls ms ns, x = .ref a ∧ y = .ref b ∧ H a = some (.dK ks) ∧ H b = some (.dK ls) ∧ KD K H ks ms ∧ KD K H ls ns ∧ Q (.bl (eqKD ms ns)) H
def rNeK (K : PySem.W.Frag) : R2 := fun x y H Q => ∃ a b ks ls ms ns, x = .ref a ∧ y = .ref b ∧ H a = some (.dK ks) ∧ H b = some (.dK ls) ∧ KD K H ks ms ∧ KD K H ls ns ∧ Q (.bl (!eqKD ms ns)) H
theorem op_eqK (hu : X.A.units + 66 < cLine) : OpR X (compareOp .Eq) (rEqK X.K) := by
  intro pins s σ H x y v u Q I rx ry h
  obtain ⟨a, b, ks, ls, ms, ns, rfl, rfl, ea, eb, ha, hb, q⟩ := h
  obtain rfl : v = Value.ref a := rx
  obtain rfl : u = Value.ref b := ry
  obtain ⟨_, ya, va, ra, da⟩ := (show ObjOk X.prog X.w H s.heap a (.dK ks) from I.hok a _ ea)
  obtain ⟨_, yb, vb, rb, db⟩ := (show ObjOk X.prog X.w H s.heap b (.dK ls) from I.hok b _ eb)
  refine PySem.W.keq_eq (knd := mixKind X.prog X.w) (r := ms.all (hitD ns)) ya yb da db (by omega) (fun _ => kd_hits I (by show X.A.units + 1 + 64 < cLine; omega) hb rb ha ra) ⟨.bl _, H, I, ?_, q⟩
  show Value.bool _ = Value.bool _
  have e1 := ra.length
  have e2 := rb.length
  rw [ha.len] at e1
  rw [hb.len] at e2
  unfold eqKD
  rw [e1, e2]
theorem op_neK (hu : X.A.units + 66 < cLine) : OpR X (compareOp .NotEq) (rNeK X.K) := by
  intro pins s σ H x y v u Q I rx ry h
  obtain ⟨a, b, ks, ls, ms, ns, rfl, rfl, ea, eb, ha, hb, q⟩ := h
  obtain rfl : v = Value.ref a := rx
  obtain rfl : u = Value.ref b := ry
  obtain ⟨_, ya, va, ra, da⟩ := (show ObjOk X.prog X.w H s.heap a (.dK ks) from I.hok a _ ea)
  obtain ⟨_, yb, vb, rb, db⟩ := (show ObjOk X.prog X.w H s.heap b (.dK ls) from I.hok b _ eb)
  refine PySem.W.keq_ne (knd := mixKind X.prog X.w) (r := ms.all (hitD ns)) ya yb da db (by omega) (fun _ => kd_hits I (by show X.A.units + 1 + 64 < cLine; omega) hb rb ha ra) ⟨.bl _, H, I, ?_, q⟩
  show Value.bool _ = Value.bool _
  have e1 := ra.length
  have e2 := rb.length
  rw [ha.len] at e1
  rw [hb.len] at e2
  unfold eqKD
  rw [e1, e2]
end
end Fm

/-! ## FmFrame -/
set_option Elab.async false
set_option maxRecDepth 100000
set_option maxHeartbeats 4000000
/-! A part G of what is tracked, F; data that no list is in; data as the library's plain data. -/
namespace Fm
open PySem L2
theorem uni_r {N M : Hp} {a : Addr} (h : N a = none) : uni N M a = M a := by
  unfold uni
  rw [h]
theorem uni_l {N M : Hp} {a : Addr} {o : HO} (h : N a = some o) : uni N M a = some o := by
  unfold uni
  rw [h]
/-- a part grows by what leaves all else as it stands -/
theorem Grow.under {G F H G' H' : Hp} {b : Addr} (s : Same G F) (B : Bag F H b) (g : Grow G H G' H') : ∃ F', Grow G F G' F' ∧ Bag F' H' b := by
  obtain ⟨fh, fb, cl, ns, p, gg, z, c, h, e1, e2, e3, e4, r⟩ := B
  have no : ∀ a o, F a = none → H a = some o → G' a = none ∧ H' a = some o := fun a o h1 h2 => g.hh a o (s.free h1) h2
  have keep : ∀ a o, F a = some o → uni G' F a = some o := fun a o h => by
    cases q : G a with
    | some u =>
      have z := s a u q
      rw [h] at z
      rw [z]
      exact uni_l (g.ff _ _ q)
    | none => rw [uni_r (g.hh a o q (fh _ _ h)).1]; exact h
  refine ⟨uni G' F, ⟨g.ff, same_uni, fun a o h1 h2 => ⟨(g.hh a o h1 (fh _ _ h2)).1, keep a o h2⟩⟩, fun a o e => ?_, ?_, cl, ns, p, gg, z, c, h, ?_, e2, (no _ _ e1 e3).2, (no _ _ fb e4).2, r⟩
  · rcases uni_or e with e | ⟨q, e⟩
    · exact g.fh _ _ e
    · cases q2 : G a with
      | some u =>
        rw [g.ff _ _ q2] at q
        cases q
      | none => exact (g.hh a o q2 (fh _ _ e)).2
  · rw [uni_r (no _ _ fb e4).1]
    exact fb
  · rw [uni_r (no _ _ e1 e3).1]
    exact e1
/-- what is in the part only for a while -/
theorem Grow.out {G F G' F' : Hp} {h : Addr} {x : HO} (g : Grow (upd G h x) (upd F h x) G' F') (fh : F h = none) (gh : G h = none) : Grow G F (cut G' h) F' := by
  refine ⟨same_cut ((same_new x gh).trans g.ff) gh, cut_sub.trans g.fh, fun a o h1 h2 => ?_⟩
  have n := ne_of_none h2 fh
  obtain ⟨z1, z2⟩ := g.hh a o (by rw [upd_ne n]; exact h1) (by rw [upd_ne n]; exact h2)
  exact ⟨by rw [cut_ne n]; exact z1, z2⟩
/-- a place that the part does not speak of -/
theorem Grow.side {G F G' F' : Hp} {D : Addr} {o : HO} (g : Grow G F G' F') (h : G' D = none) (hF : F D = none) : Grow G F G' (upd F' D o) := g.junk h hF o
/-- what was new becomes a part of what is spoken of -/
theorem Grow.take {G F G' F' : Hp} {D : Addr} (g : Grow G F G' F') (hF : F D = none) (hG : G D = none) (o : HO) : Grow G F (upd G' D o) (upd F' D o) := by
  refine ⟨fun a u e => ?_, same_upd g.fh D o, fun a u e1 e2 => ?_⟩
  · rw [upd_ne (ne_of_none e hG)]
    exact g.ff _ _ e
  · have n := ne_of_none e2 hF
    rw [upd_ne n, upd_ne n]
    exact g.hh a u e1 e2
theorem Bag.late {F H H' : Hp} {b p : Addr} {o : HO} (B : Bag F H b) (hp : H p = none) (s : Same H H') (e : H' p = some o) : Bag (upd F p o) H' b := by
  refine bag_same (B.new o hp) fun a u q => ?_
  by_cases z : a = p
  · rw [z, upd_same] at q
    rw [z, e]
    exact q
  · rw [upd_ne z] at q
    exact s _ _ q
/-! ### data without lists -/
mutual
def noL : PyData → Bool
  | .list _ => false
  | .dict _ => false
  | .tuple ds => noLs ds
  | _ => true
def noLs : List PyData → Bool
  | [] => true
  | d :: ds => noL d && noLs ds
end
mutual
theorem Tp.cut {F : Hp} {h : Addr} {l : List V} (e : F h = some (.lst l)) : ∀ {d : PyData} {v : V}, Tp F v d → noL d = true → Tp (cut F h) v d
  | .none, _, h, _ => by cases h; exact .non
  | .bool b, _, h, _ => by cases h; exact .bl b
  | .int i, _, h, _ => by cases h; exact .int i
  | .str x, _, h, _ => by cases h; exact .str x
  | .list ds, _, _, n => by cases n
  | .dict _, _, _, n => by cases n
  | .tuple ds, _, t, n => by
    cases t with
    | tup hs ha =>
      refine .tup ?_ (TpAll.cut e ha n)
      rw [cut_ne fun z => by rw [z, e] at hs; cases hs]
      exact hs
theorem TpAll.cut {F : Hp} {h : Addr} {l : List V} (e : F h = some (.lst l)) : ∀ {ds : List PyData} {vs : List V}, TpAll F vs ds → noLs ds = true → TpAll (cut F h) vs ds
  | [], _, h, _ => by cases h; exact .nil
  | d :: ds, _, t, n => by
    cases t with
    | cons h1 h2 =>
      have n' : (noL d && noLs ds) = true := n
      rw [Bool.and_eq_true] at n'
      exact .cons (Tp.cut e h1 n'.1) (TpAll.cut e h2 n'.2)
end
theorem noLs_all : ∀ {ds : List PyData}, (∀ d ∈ ds, noL d = true) → noLs ds = true
  | [], _ => rfl
  | d :: ds, h => by
    show (noL d && noLs ds) = true
    rw [h d List.mem_cons_self, noLs_all fun c m => h c (List.mem_cons_of_mem _ m)]
    rfl
/-! ### plain data -/
mutual
def noD : PyData → Bool
  | .list ds => noDs ds
  | .dict _ => false
  | .tuple ds => noDs ds
  | _ => true
def noDs : List PyData → Bool
  | [] => true
  | d :: ds => noD d && noDs ds
end
mutual
theorem Tp.plain {K : PySem.W.Frag} {F : Hp} : ∀ {d : PyData} {v : V}, Tp F v d → noD d = true → Dp K F v d
  | .none, _, h, _ => by cases h; exact .non
  | .bool b, _, h, _ => by cases h; exact .bl b
  | .int i, _, h, _ => by cases h; exact .int i
  | .str x, _, h, _ => by cases h; exact .str x
  | .dict _, _, _, n => by cases n
  | .list ds, _, t, n => by
    cases t with
    | lst hs ha => exact .lst (.inl (.inl hs)) (TpAll.plain ha n)
  | .tuple ds, _, t, n => by
    cases t with
    | tup hs ha => exact .tup (.inl (.inl hs)) (TpAll.plain ha n)
theorem TpAll.plain {K : PySem.W.Frag} {F : Hp} : ∀ {ds : List PyData} {vs : List V}, TpAll F vs ds → noDs ds = true → DpAll K F vs ds
  | [], _, h, _ => by cases h; exact .nil
  | d :: ds, _, t, n => by
    cases t with
    | cons h1 h2 =>
      have n' : (noD d && noDs ds) = true := n
      rw [Bool.and_eq_true] at n'
      exact .cons (Tp.plain h1 n'.1) (TpAll.plain h2 n'.2)
end
theorem noDs_all : ∀ {ds : List PyData}, (∀ d ∈ ds, noD d = true) → noDs ds = true
  | [], _ => rfl
  | d :: ds, h => by
    show (noD d && noDs ds) = true
    rw [h d List.mem_cons_self, noDs_all fun c m => h c (List.mem_cons_of_mem _ m)]
    rfl
end Fm

/-! ## K06J -/
set_option Elab.async false
set_option maxRecDepth 100000
set_option maxHeartbeats 4000000
namespace Fm
open PySem L2
/-! ### shapes, as plain data -/
theorem strOk_nm {s : Str} (h : isNm s = true) : PyData.strOk s = true := by
  unfold isNm at h
  simp only [Bool.and_eq_true, List.all_eq_true, decide_eq_true_eq] at h
  show s.cps.all (· < 0x110000) = true
  rw [← Array.all_toList, List.all_eq_true]
  intro c m
  have q := h.2 c m
  exact decide_eq_true (by omega)
theorem canLay_strs : ∀ {xs : List Str}, (∀ f ∈ xs, isNm f = true) → PyData.canLayAll0 (xs.map PyData.str) = true
  | [], _ => rfl
  | x :: xs, h => by
    show (PyData.strOk x && PyData.canLayAll0 (xs.map PyData.str)) = true
    rw [strOk_nm (h x List.mem_cons_self), canLay_strs fun f m => h f (List.mem_cons_of_mem _ m)]
    rfl
theorem depth_strs : ∀ (xs : List Str), PyData.depthAll (xs.map PyData.str) = 0
  | [] => rfl
  | x :: xs => by
    show max 0 (PyData.depthAll (xs.map PyData.str)) = 0
    rw [depth_strs xs]
    rfl
theorem canLay_tabs : ∀ {ts : List Tab}, (∀ t ∈ ts, TOk t) → PyData.canLayAll0 (ts.map (tabD false)) = true
  | [], _ => rfl
  | t :: ts, h => by
    have ok := h t List.mem_cons_self
    show ((PyData.strOk t.1 && (PyData.canLayAll0 (t.2.map PyData.str) && true)) && PyData.canLayAll0 (ts.map (tabD false))) = true
    rw [strOk_nm ok.nm, canLay_strs ok.fs.nm, canLay_tabs fun u m => h u (List.mem_cons_of_mem _ m)]
    rfl
theorem depth_tabs : ∀ (ts : List Tab), PyData.depthAll (ts.map (tabD false)) ≤ 2
  | [] => Nat.zero_le _
  | t :: ts => by
    show max (max 0 (max (PyData.depthAll (t.2.map PyData.str) + 1) 0) + 1) (PyData.depthAll (ts.map (tabD false))) ≤ 2
    have ih := depth_tabs ts
    rw [depth_strs]
    omega
theorem shaped_tabs {ts : List Tab} (h : ∀ t ∈ ts, TOk t) : SeqAt.shaped (tsD ts) = true := by
  have d := depth_tabs ts
  show (PyData.canLayAll0 (ts.map (tabD false)) && decide (PyData.depthAll (ts.map (tabD false)) + 1 ≤ 64)) = true
  rw [canLay_tabs h, decide_eq_true (by omega)]
  rfl
theorem noDs_strs : ∀ xs : List Str, noDs (xs.map PyData.str) = true := fun xs => noDs_all fun d m => by
  obtain ⟨_, _, rfl⟩ := List.mem_map.mp m
  rfl
theorem noD_tabs (ts : List Tab) : noD (tsD ts) = true := by
  show noDs (ts.map (tabD false)) = true
  refine noDs_all fun d m => ?_
  obtain ⟨t, _, rfl⟩ := List.mem_map.mp m
  show (true && (noDs (t.2.map PyData.str) && true)) = true
  rw [noDs_strs]
  rfl
theorem noL_tabs (ts : List Tab) : noL (tsD ts) = true := by
  show noLs (ts.map (tabD false)) = true
  refine noLs_all fun d m => ?_
  obtain ⟨t, _, rfl⟩ := List.mem_map.mp m
  have z : noLs (t.2.map PyData.str) = true := noLs_all fun d m => by
    obtain ⟨_, _, rfl⟩ := List.mem_map.mp m
    rfl
  show (true && (noLs (t.2.map PyData.str) && true)) = true
  rw [z]
  rfl
/-! ### rows of numbers -/
def rowD (r : List Int) : PyData := .tuple (r.map PyData.int)
def gT (R : Str → List (List Int)) : Str → PyData := fun n => .tuple ((R n).map rowD)
def gL (R : Str → List (List Int)) : Str → PyData := fun n => .list ((R n).map rowD)
def goodR (w : Nat) (r : List Int) : Prop := r.length = w ∧ ∀ z ∈ r, -1000000000 ≤ z ∧ z ≤ 1000000000
/-- rows for all tables, at most N for each -/
def Rok (ts : List Tab) (R : Str → List (List Int)) (N : Nat) : Prop := ∀ t ∈ ts, (R t.1).length ≤ N ∧ ∀ r ∈ R t.1, goodR t.2.length r
def setR (R : Str → List (List Int)) (n : Str) (rs : List (List Int)) : Str → List (List Int) := fun m => if m = n then rs else R m
theorem eqv_row (r s : List Int) : PyData.eqv (rowD r) (rowD s) = decide (r = s) := PySem.W.ked_eqvAll r s
theorem eqv_rows : ∀ (xs ys : List (List Int)), PyData.eqvAll (xs.map rowD) (ys.map rowD) = decide (xs = ys)
  | [], [] => rfl
  | [], _ :: _ => rfl
  | _ :: _, [] => rfl
  | x :: xs, y :: ys => by
    show (PyData.eqv (rowD x) (rowD y) && PyData.eqvAll (xs.map rowD) (ys.map rowD)) = decide (x :: xs = y :: ys)
    rw [eqv_row, eqv_rows xs ys]
    by_cases h1 : x = y
    · by_cases h2 : xs = ys <;> simp [h1, h2]
    · simp [h1]
theorem can_ints : ∀ (r : List Int), PyData.canLayAll0 (r.map PyData.int) = true
  | [] => rfl
  | x :: r => by
    show (true && PyData.canLayAll0 (r.map PyData.int)) = true
    rw [can_ints r]
    rfl
theorem dp_ints : ∀ (r : List Int), PyData.depthAll (r.map PyData.int) = 0
  | [] => rfl
  | x :: r => by
    show max 0 (PyData.depthAll (r.map PyData.int)) = 0
    rw [dp_ints r]
    rfl
theorem can_rows : ∀ (xs : List (List Int)), PyData.canLayAll0 (xs.map rowD) = true
  | [] => rfl
  | x :: xs => by
    show (PyData.canLayAll0 (x.map PyData.int) && PyData.canLayAll0 (xs.map rowD)) = true
    rw [can_ints, can_rows xs]
    rfl
theorem dp_rows : ∀ (xs : List (List Int)), PyData.depthAll (xs.map rowD) ≤ 1
  | [] => Nat.zero_le _
  | x :: xs => by
    show max (PyData.depthAll (x.map PyData.int) + 1) (PyData.depthAll (xs.map rowD)) ≤ 1
    have z := dp_rows xs
    rw [dp_ints]
    omega
theorem shaped_rowsT (R : Str → List (List Int)) (n : Str) : SeqAt.shaped (gT R n) = true := by
  have d := dp_rows (R n)
  show (PyData.canLayAll0 ((R n).map rowD) && decide (PyData.depthAll ((R n).map rowD) + 1 ≤ 64)) = true
  rw [can_rows, decide_eq_true (by omega)]
  rfl
theorem shaped_rowsL (R : Str → List (List Int)) (n : Str) : SeqAt.shaped (gL R n) = true := shaped_rowsT R n
theorem noDs_rows (xs : List (List Int)) : noDs (xs.map rowD) = true := noDs_all fun d m => by
  obtain ⟨r, _, rfl⟩ := List.mem_map.mp m
  refine noDs_all fun d m => ?_
  obtain ⟨_, _, rfl⟩ := List.mem_map.mp m
  rfl
theorem noL_rows (R : Str → List (List Int)) (n : Str) : noL (gT R n) = true := noLs_all fun d m => by
  obtain ⟨r, _, rfl⟩ := List.mem_map.mp m
  refine noLs_all fun d m => ?_
  obtain ⟨_, _, rfl⟩ := List.mem_map.mp m
  rfl
/-- whether the rows are the same for all tables -/
def sameR (ts : List Tab) (R S : Str → List (List Int)) : Bool := ts.all fun t => decide (R t.1 = S t.1)
theorem sameR_comm (ts : List Tab) (R S : Str → List (List Int)) : sameR ts R S = sameR ts S R := by
  unfold sameR
  congr 1
  funext t
  exact decide_eq_decide.mpr ⟨Eq.symm, Eq.symm⟩
/-- the pairs of a dict of rows -/
def pairsD (ts : List Tab) (g : Str → PyData) : List (Key × PyData) := ts.map fun t => ((Sum.inr t.1 : Key), g t.1)
theorem kd_of {K : PySem.W.Frag} {F : Hp} {ts : List Tab} {g : Str → PyData} (nd : (ts.map (·.1)).Nodup) (sh : ∀ n, SeqAt.shaped (g n) = true) (pl : ∀ n, noD (g n) = true) : ∀ {kvs : List (Key × V)}, kvs.map (·.1) = ts.map (fun t => (Sum.inr t.1 : Key)) → (∀ t ∈ ts, ∃ v, valV kvs (Sum.inr t.1) = some v ∧ Tp F v (g t.1)) → KD K F kvs (pairsD ts g) := by
  induction ts with
  | nil =>
    intro kvs e _
    cases kvs with
    | nil => exact .nil
    | cons _ _ => cases e
  | cons t ts ih =>
    intro kvs e val
    cases kvs with
    | nil => cases e
    | cons kv kvs =>
      rw [List.map_cons, List.map_cons] at e
      injection e with e1 e2
      obtain ⟨k, v⟩ := kv
      have e1' : k = Sum.inr t.1 := e1
      subst e1'
      rw [List.map_cons, List.nodup_cons] at nd
      obtain ⟨u, h1, h2⟩ := val t List.mem_cons_self
      have z : valV ((Sum.inr t.1, v) :: kvs) (Sum.inr t.1) = some v := by
        unfold valV
        rw [List.find?_cons_of_pos (by simp)]
        rfl
      rw [z] at h1
      cases h1
      refine .cons (h2.plain (pl _)) (sh _) (ih nd.2 e2 fun u mu => ?_)
      obtain ⟨y, q1, q2⟩ := val u (List.mem_cons_of_mem _ mu)
      refine ⟨y, ?_, q2⟩
      have ne : ¬ t.1 = u.1 := fun e => nd.1 (by rw [e]; exact List.mem_map.mpr ⟨u, mu, rfl⟩)
      unfold valV at q1 ⊢
      rw [List.find?_cons_of_neg (by simp [ne])] at q1
      exact q1
theorem valD_pairs {ts : List Tab} {g : Str → PyData} (nd : (ts.map (·.1)).Nodup) {t : Tab} (m : t ∈ ts) : valD (pairsD ts g) (Sum.inr t.1) = some (g t.1) := by
  induction ts with
  | nil => cases m
  | cons u us ih =>
    rw [List.map_cons, List.nodup_cons] at nd
    unfold valD pairsD
    rw [List.map_cons]
    rcases List.mem_cons.mp m with rfl | m
    · rw [List.find?_cons_of_pos (by simp)]
      rfl
    · have ne : ¬ u.1 = t.1 := fun e => nd.1 (by rw [e]; exact List.mem_map.mpr ⟨t, m, rfl⟩)
      rw [List.find?_cons_of_neg (by simp [ne])]
      exact ih nd.2 m
theorem eqKD_same {ts : List Tab} {R S : Str → List (List Int)} {g h : Str → PyData} (nd : (ts.map (·.1)).Nodup) (e : ∀ n, PyData.eqv (g n) (h n) = decide (R n = S n)) : eqKD (pairsD ts g) (pairsD ts h) = sameR ts R S := by
  unfold eqKD
  have l : (pairsD ts g).length = (pairsD ts h).length := by
    unfold pairsD
    rw [List.length_map, List.length_map]
  rw [l, beq_self_eq_true, Bool.true_and]
  unfold sameR
  have z : ∀ us : List Tab, (∀ u ∈ us, u ∈ ts) → (pairsD us g).all (hitD (pairsD ts h)) = us.all fun t => decide (R t.1 = S t.1) := by
    intro us
    induction us with
    | nil => intro _; rfl
    | cons u us ih =>
      intro hu
      have hh : hitD (pairsD ts h) ((Sum.inr u.1 : Key), g u.1) = decide (R u.1 = S u.1) := by
        unfold hitD
        rw [show valD (pairsD ts h) (((Sum.inr u.1 : Key), g u.1) : Key × PyData).1 = some (h u.1) from valD_pairs nd (hu u List.mem_cons_self)]
        exact e u.1
      show (hitD (pairsD ts h) ((Sum.inr u.1 : Key), g u.1) && (pairsD us g).all (hitD (pairsD ts h))) = (decide (R u.1 = S u.1) && us.all fun t => decide (R t.1 = S t.1))
      rw [hh, ih fun u m => hu u (List.mem_cons_of_mem _ m)]
  exact z ts fun _ m => m
theorem noD_T (R : Str → List (List Int)) (n : Str) : noD (gT R n) = true := noDs_rows (R n)
theorem noD_L (R : Str → List (List Int)) (n : Str) : noD (gL R n) = true := noDs_rows (R n)
theorem eqv_T {R S : Str → List (List Int)} (n : Str) : PyData.eqv (gT R n) (gT S n) = decide (R n = S n) := eqv_rows _ _
theorem eqv_L {R S : Str → List (List Int)} (n : Str) : PyData.eqv (gL R n) (gL S n) = decide (R n = S n) := eqv_rows _ _
/-- what else the top has left of the class of stores -/
structure Tx3 (K : PySem.W.Frag) (CT : Addr) : Prop where
  c_cls : PySem.W.findIn K (.ref CT) "__class__" = some (some (.builtin "object.__class__"))
  c_mro : PySem.W.mroIn K CT (.type "object") = some true
  c_ne : PySem.W.findIn K (.ref CT) "__ne__" = some (some (.builtin "object.__ne__"))
theorem kit_same {K : PySem.W.Frag} (C : Addr) : PySem.W.kitOne K (.ref C) (.ref C) = some true := by
  show (if (Value.ref C == Value.ref C) = true then some true else _) = some true
  rw [if_pos (beq_self_eq_true _)]
theorem first_same {K : PySem.W.Frag} (C : Addr) : PySem.W.notFirst K C (.ref C) = true := by
  show ((Value.ref C == Value.ref C) || _) = true
  rw [beq_self_eq_true]
  rfl
section
variable {P : Program} {w : World} {K : PySem.W.Frag} {mg : Str → Option Value} {base : Heap} {CS CT : Addr}
/-- two shapes of the same tables -/
def spShSame (CS : Addr) : Sp := fun vs H Q _ => ∃ (F : Hp) (a b : Addr) (ts : List Tab), vs = [.ref a, .ref b] ∧ Same F H ∧ ShT CS F a (tsD ts) ∧ ShT CS F b (tsD ts) ∧ TsOk ts ∧ Q (.bl true) H
abbrev s_Shape_eq : Stmt := inClass (topS 23) 1
abbrev sc_Shape_eqN : List Str := ["self", "other"]
abbrev ps_Shape_eq : List Str := ["self", "other"]
theorem sc_Shape_eq : FnScope sc_Shape_eqN ps_Shape_eq (defScope s_Shape_eq) := ⟨rfl, rfl, rfl, by decide +kernel, rfl, by decide +kernel, by decide +kernel⟩
theorem ok_Shape_eq {f : Addr} {fd : FuncData} (F : Fun K "__eq__" "Shape.__eq__" s_Shape_eq f fd) (T : Txt K mg CS) : FnOk P w K mg base CX0 1 f fd ps_Shape_eq (spShSame CS) := by
  refine F.ok sc_Shape_eq (fun vs H Q E h => ?_) (fun cdv A outer s H vs Q E hr h => ?_)
  · obtain ⟨_, _, _, _, rfl, _⟩ := h
    rfl
  · obtain ⟨F0, a, b, ts, rfl, sF, ⟨dx, v, ha, dv⟩, ⟨dy, u, hb, du⟩, ok, k⟩ := h
    refine ⟨_, (pss_one (ps_ret (pe_and (pe_callB call_isi (by rfl) T.n_isinstance (by decide +kernel) (pa_cons (pv 1) (pa_cons (pe_glob (v := .ref CS) rfl T.g_Shape rfl) pa_nil))) (pe_one (pe_cmpR (op_eqD hr.units) (pe_fld (pv 0) rfl) (pe_fld (pv 1) rfl) (nomark _)))))), ?_⟩
    refine ⟨_, rfl, _, _, _, _, _, rfl, .own _, .base (.ins (sF _ _ hb) T.cl T.c_cls T.c_get T.c_tak T.c_mro), kit_same CS, _, rfl, iteT ?_⟩
    have sh := shaped_tabs ok.ok
    refine ⟨_, rfl, a, CS, dx, _, v, rfl, sF _ _ ha, T.cl, T.nT, rfl, _, rfl, b, CS, dy, _, u, rfl, sF _ _ hb, T.cl, T.nT, rfl, _, _, (dv.same sF).plain (noD_tabs ts), (du.same sF).plain (noD_tabs ts), sh, sh, ?_⟩
    have e : PyData.eqv (tsD ts) (tsD ts) = true := SeqAt.eqv_refl _ (SeqAt.canLay_of_shaped sh)
    rw [e]
    exact k
/-- two stores of the same shape -/
def spStSame (CS CT : Addr) : Sp := fun vs H Q _ => ∃ (F : Hp) (a b : Addr) (ts : List Tab) (R S : Str → List (List Int)), vs = [.ref a, .ref b] ∧ Same F H ∧ StAt CS CT F a ts (gT R) ∧ StAt CS CT F b ts (gT S) ∧ TsOk ts ∧ Q (.bl (sameR ts R S)) H
abbrev s_Store_eq : Stmt := inClass (topS 24) 1
abbrev sc_Store_eqN : List Str := ["self", "other"]
abbrev ps_Store_eq : List Str := ["self", "other"]
theorem sc_Store_eq : FnScope sc_Store_eqN ps_Store_eq (defScope s_Store_eq) := ⟨rfl, rfl, rfl, by decide +kernel, rfl, by decide +kernel, by decide +kernel⟩
theorem ok_Store_eq {f : Addr} {fd : FuncData} (F : Fun K "__eq__" "Store.__eq__" s_Store_eq f fd) (T : Txt K mg CS) (T2 : Tx2 K mg CT) (T3 : Tx3 K CT) (E_Shape : Deq P w K mg base CS 1 ps_Shape_eq (spShSame CS)) : FnOk P w K mg base CX0 2 f fd ps_Store_eq (spStSame CS CT) := by
  refine F.ok sc_Store_eq (fun vs H Q E h => ?_) (fun cdv A outer s H vs Q E hr h => ?_)
  · obtain ⟨_, _, _, _, _, _, rfl, _⟩ := h
    rfl
  · obtain ⟨F0, a, b, ts, R, S, rfl, sF, ⟨dx, sh, rd, ha, shA, kvs, hrd, ek, val⟩, ⟨dy, sh2, rd2, hb, shB, kvs2, hrd2, ek2, val2⟩, ok, k⟩ := h
    refine ⟨_, (pss_one (ps_ret (pe_and (pe_callB call_isi (by rfl) T.n_isinstance (by decide +kernel) (pa_cons (pv 1) (pa_cons (pe_glob (v := .ref CT) rfl T2.g_Store rfl) pa_nil))) (pe_and (pe_cmpR (op_eqO E_Shape (hr.mono (by decide))) (pe_fld (pv 0) rfl) (pe_fld (pv 1) rfl) (nomark _)) (pe_one (pe_cmpR (op_eqK hr.units66) (pe_fld (pv 0) rfl) (pe_fld (pv 1) rfl) (nomark _))))))), ?_⟩
    refine ⟨_, rfl, _, _, _, _, _, rfl, .own _, .base (.ins (sF _ _ hb) T2.clT T3.c_cls T.c_get T.c_tak T3.c_mro), kit_same CT, _, rfl, iteT ?_⟩
    obtain ⟨dz, v, hsh, dv⟩ := id shA
    obtain ⟨dz2, v2, hsh2, dv2⟩ := id shB
    refine ⟨_, rfl, a, CT, dx, _, _, rfl, sF _ _ ha, T2.clT, T2.nSh, rfl, _, rfl, b, CT, dy, _, _, rfl, sF _ _ hb, T2.clT, T2.nSh, rfl, ?_⟩
    refine ⟨sh, dz, _, _, rfl, sF _ _ hsh, .base (.ins (sF _ _ hsh2) T.cl T.c_cls T.c_get T.c_tak T.c_mro), first_same CS, ?_⟩
    refine ⟨F0, sh, sh2, ts, rfl, sF, shA, shB, ok, true, rfl, _, rfl, iteT ?_⟩
    refine ⟨_, rfl, a, CT, dx, _, _, rfl, sF _ _ ha, T2.clT, T2.nRw, rfl, _, rfl, b, CT, dy, _, _, rfl, sF _ _ hb, T2.clT, T2.nRw, rfl, ?_⟩
    refine ⟨rd, rd2, kvs, kvs2, pairsD ts (gT R), pairsD ts (gT S), rfl, rfl, sF _ _ hrd, sF _ _ hrd2, kd_of ok.nd (shaped_rowsT R) (noD_T R) ek fun t m => ?_, kd_of ok.nd (shaped_rowsT S) (noD_T S) ek2 fun t m => ?_, ?_⟩
    · obtain ⟨v, h1, h2⟩ := val t m
      exact ⟨v, h1, h2.same sF⟩
    · obtain ⟨v, h1, h2⟩ := val2 t m
      exact ⟨v, h1, h2.same sF⟩
    · rw [eqKD_same (R := R) (S := S) ok.nd eqv_T]
      exact k
end
end Fm

/-! ## K06G -/
set_option Elab.async false
set_option maxRecDepth 100000
set_option maxHeartbeats 4000000
namespace Fm
open PySem L2
/-! ### rows that are put and taken -/
theorem okRow_good {w : Nat} {r : List Int} (h : goodR w r) : okRow w (rowD r) = true ∧ okRow w (.list (r.map PyData.int)) = true := by
  have e : (r.map PyData.int).length = w := by rw [List.length_map, h.1]
  have a : (r.map PyData.int).all isValD = true := by
    rw [List.all_eq_true]
    intro c m
    obtain ⟨z, mz, rfl⟩ := List.mem_map.mp m
    obtain ⟨v1, v2⟩ := h.2 z mz
    show (decide (-1000000000 ≤ z) && decide (z ≤ 1000000000)) = true
    rw [decide_eq_true v1, decide_eq_true v2]
    rfl
  have go : ∀ d : PyData, partsD d = r.map PyData.int → isRowD d = true → okRow w d = true := fun d q1 q2 => by
    unfold okRow rowD3
    rw [q1, q2, e, decide_eq_true (Int.le_refl _), a]
    rfl
  exact ⟨go _ rfl rfl, go _ rfl rfl⟩
theorem ints_sz : ∀ zs : List Int, depL (zs.map PyData.int) = 0 ∧ sizL (zs.map PyData.int) = zs.length
  | [] => ⟨rfl, rfl⟩
  | z :: zs => by
    obtain ⟨h1, h2⟩ := ints_sz zs
    exact ⟨show max 0 (depL (zs.map PyData.int)) = 0 by omega, show 1 + sizL (zs.map PyData.int) = zs.length + 1 by omega⟩
theorem rows_sz {w : Nat} : ∀ {R : List (List Int)}, (∀ r ∈ R, goodR w r) → depL (R.map rowD) ≤ 1 ∧ sizL (R.map rowD) = (1 + w) * R.length
  | [], _ => ⟨Nat.zero_le _, rfl⟩
  | r :: R, h => by
    obtain ⟨h1, h2⟩ := rows_sz fun s m => h s (List.mem_cons_of_mem _ m)
    have l := (h r List.mem_cons_self).1
    obtain ⟨i1, i2⟩ := ints_sz r
    refine ⟨?_, ?_⟩
    · show max (1 + depL (r.map PyData.int)) (depL (R.map rowD)) ≤ 1
      omega
    · show (1 + sizL (r.map PyData.int)) + sizL (R.map rowD) = (1 + w) * (R.length + 1)
      rw [Nat.mul_add, Nat.mul_one]
      omega
theorem rok_bd {ts : List Tab} {R : Str → List (List Int)} {N : Nat} (ok : TsOk ts) (h : Rok ts R N) (hN : N ≤ 60) {t : Tab} (m : t ∈ ts) : 1 + sizL ((R t.1).map rowD) ≤ 400 ∧ depL ((R t.1).map rowD) ≤ 1 := by
  obtain ⟨l, g⟩ := h t m
  obtain ⟨h1, h2⟩ := rows_sz g
  have lf := (ok.ok t m).fs.hi
  have z : (1 + t.2.length) * (R t.1).length ≤ 5 * 60 := Nat.mul_le_mul (by omega) (by omega)
  omega
theorem rok_sm {ts : List Tab} {R : Str → List (List Int)} {N : Nat} (ok : TsOk ts) (h : Rok ts R N) (hN : N ≤ 60) : Sm ts (gT R) := fun t m => by
  obtain ⟨z1, z2⟩ := rok_bd ok h hN m
  refine ⟨rfl, ?_, ?_⟩
  · show 1 + sizL ((R t.1).map rowD) ≤ 10000
    omega
  · show 1 + depL ((R t.1).map rowD) ≤ 30
    omega
theorem some_at {α β : Type} {f : α → Option β} : ∀ {xs : List α} {x : α}, x ∈ xs → (∀ y ∈ xs, y = x ∨ f y = none) → xs.findSome? f = f x
  | y :: xs, x, m, h => by
    rw [List.findSome?_cons]
    rcases h y List.mem_cons_self with rfl | e
    · cases q : f y with
      | some b => rfl
      | none =>
        show xs.findSome? f = none
        rw [List.findSome?_eq_none_iff]
        intro z mz
        rcases h z (List.mem_cons_of_mem _ mz) with rfl | e
        · exact q
        · exact e
    · rw [e]
      rcases List.mem_cons.mp m with rfl | m
      · rw [e]
        show xs.findSome? f = none
        rw [List.findSome?_eq_none_iff]
        intro z mz
        rcases h z (List.mem_cons_of_mem _ mz) with rfl | e2
        · exact e
        · exact e2
      · exact some_at m fun z mz => h z (List.mem_cons_of_mem _ mz)
theorem setG_at {g : Str → PyData} {n : Str} {e : PyData} : setG g n e n = e := if_pos rfl
theorem setG_ne {g : Str → PyData} {n m : Str} {e : PyData} (h : m ≠ n) : setG g n e m = g m := if_neg h
theorem tab_eq {ts : List Tab} (nd : (ts.map (·.1)).Nodup) {t u : Tab} (m : t ∈ ts) (mu : u ∈ ts) (q : u.1 = t.1) : u = t := by
  obtain ⟨i, hi, ei⟩ := List.getElem_of_mem mu
  obtain ⟨j, hj, ej⟩ := List.getElem_of_mem m
  have z := (List.getElem_inj (h₀ := by rw [List.length_map]; exact hi) (h₁ := by rw [List.length_map]; exact hj) nd).mp (by rw [List.getElem_map, List.getElem_map, ei, ej]; exact q)
  subst z
  rw [← ei, ej]
theorem firstD_rows {w : Nat} {R : List (List Int)} (h : ∀ r ∈ R, goodR w r) : firstWrong w (R.map rowD) = none := first_none fun j r e => by
  rw [List.getElem?_map] at e
  obtain ⟨z, hz, rfl⟩ := Option.map_eq_some_iff.mp e
  exact (okRow_good (h z (List.mem_of_getElem? hz))).1
theorem bad_set {ts : List Tab} {R : Str → List (List Int)} {N : Nat} {t : Tab} {e : PyData} (ok : TsOk ts) (m : t ∈ ts) (h : Rok ts R N) : firstBad (setG (gT R) t.1 e) ts = (firstD t.2.length e).map fun i => (t.1, i) := by
  unfold firstBad
  rw [some_at m fun u mu => ?_]
  · rw [setG_at]
  · by_cases q : u.1 = t.1
    · exact .inl (tab_eq ok.nd m mu q)
    · right
      rw [setG_ne q]
      have z : firstD u.2.length (gT R u.1) = none := by
        show (firstWrong u.2.length ((R u.1).map rowD)).map Int.ofNat = none
        rw [firstD_rows (h u mu).2]
        rfl
      rw [z]
      rfl
theorem total_le {h : Str → PyData} {N : Nat} : ∀ {ts : List Tab}, (∀ t ∈ ts, (partsD (h t.1)).length ≤ N) → total h ts ≤ N * ts.length
  | [], _ => Nat.zero_le _
  | t :: ts, k => by
    have z := total_le fun u m => k u (List.mem_cons_of_mem _ m)
    have y := k t List.mem_cons_self
    unfold total at *
    rw [List.map_cons, List.sum_cons, List.length_cons, Nat.mul_add, Nat.mul_one]
    omega
theorem total_set {ts : List Tab} {R : Str → List (List Int)} {N : Nat} {t : Tab} {e : PyData} (ok : TsOk ts) (h : Rok ts R N) (hN : N ≤ 59) (l : (partsD e).length ≤ 60) : total (setG (gT R) t.1 e) ts ≤ 300 := by
  have z := total_le (h := setG (gT R) t.1 e) (ts := ts) (N := 60) fun u mu => by
    by_cases q : u.1 = t.1
    · rw [q, setG_at]
      exact l
    · rw [setG_ne q]
      show ((R u.1).map rowD).length ≤ 60
      rw [List.length_map]
      have y := (h u mu).1
      omega
  have y := ok.hi
  omega
theorem rowD_tupd (r : List Int) : tupd (rowD r) = rowD r := by
  show PyData.tuple (tupdL (r.map PyData.int)) = _
  rw [tupdL_map]
  have z : ∀ r : List Int, (r.map PyData.int).map tupd = r.map PyData.int := fun r => by
    rw [List.map_map]
    rfl
  rw [z]
  rfl
theorem rows_tupd (R : List (List Int)) : (R.map rowD).map tupd = R.map rowD := by
  rw [List.map_map]
  exact List.map_congr_left fun r _ => rowD_tupd r
theorem list_tupd (R : List (List Int)) : tupd (.list (R.map rowD)) = .tuple (R.map rowD) := by
  rw [tupd_parts rfl]
  exact congrArg PyData.tuple (rows_tupd R)
theorem tuple_tupd (R : List (List Int)) : tupd (.tuple (R.map rowD)) = .tuple (R.map rowD) := by
  rw [tupd_parts rfl]
  exact congrArg PyData.tuple (rows_tupd R)
/-- the rows of a store, with others for one table -/
theorem set_tupd {R : Str → List (List Int)} {n : Str} {e : PyData} {rs : List (List Int)} (h : tupd e = .tuple (rs.map rowD)) : (fun m => tupd (setG (gT R) n e m)) = gT (setR R n rs) := funext fun m => by
  show tupd (if m = n then e else .tuple ((R m).map rowD)) = .tuple ((if m = n then rs else R m).map rowD)
  by_cases q : m = n
  · rw [if_pos q, if_pos q]
    exact h
  · rw [if_neg q, if_neg q]
    exact tuple_tupd _
theorem rok_set {ts : List Tab} {R : Str → List (List Int)} {N M : Nat} {t : Tab} {rs : List (List Int)} (ok : TsOk ts) (m : t ∈ ts) (h : Rok ts R N) (hM : N ≤ M) (l : rs.length ≤ M) (g : ∀ r ∈ rs, goodR t.2.length r) : Rok ts (setR R t.1 rs) M := fun u mu => by
  unfold setR
  by_cases q : u.1 = t.1
  · rw [if_pos q]
    rw [tab_eq ok.nd m mu q]
    exact ⟨l, g⟩
  · rw [if_neg q]
    exact ⟨Nat.le_trans (h u mu).1 hM, (h u mu).2⟩
theorem Rok.up {ts : List Tab} {R : Str → List (List Int)} {N M : Nat} (h : Rok ts R N) (hM : N ≤ M) : Rok ts R M := fun u mu => ⟨Nat.le_trans (h u mu).1 hM, (h u mu).2⟩
theorem StAt.cut {CS CT : Addr} {F : Hp} {a h : Addr} {l : List V} {ts : List Tab} {R : Str → List (List Int)} (s : StAt CS CT F a ts (gT R)) (e : F h = some (.lst l)) : StAt CS CT (cut F h) a ts (gT R) := by
  obtain ⟨dx, sh, rd, h1, ⟨dy, v, h2, h3⟩, kvs, h4, h5, h6⟩ := s
  have ne : ∀ {x : Addr} {o : HO}, F x = some o → (∀ l, o ≠ .lst l) → Fm.cut F h x = some o := fun {x o} q n => by
    rw [cut_ne fun z => ?_]
    · exact q
    · rw [z, e] at q
      exact n l (Option.some.inj q).symm
  exact ⟨dx, sh, rd, ne h1 (fun _ z => nomatch z), ⟨dy, v, ne h2 (fun _ z => nomatch z), h3.cut e (noL_tabs ts)⟩, kvs, ne h4 (fun _ z => nomatch z), h5, fun t m => by
    obtain ⟨y, q1, q2⟩ := h6 t m
    exact ⟨y, q1, q2.cut e (noL_rows R _)⟩⟩
/-- a dict of rows with another list for one table -/
theorem RsAt.put {F : Hp} {D : Addr} {kvs : List (Key × V)} {v : V} {ts : List Tab} {R : Str → List (List Int)} {t : Tab} {rs : List (List Int)} (m : t ∈ ts) (hD : F D = some (.dK (putK kvs (Sum.inr t.1) v))) (ek : kvs.map (·.1) = ts.map (fun t => (Sum.inr t.1 : Key)))
    (val : ∀ t ∈ ts, ∃ v, valV kvs (Sum.inr t.1) = some v ∧ Tp F v (gL R t.1)) (hv : Tp F v (.list (rs.map rowD))) : RsAt F D ts (gL (setR R t.1 rs)) := by
  have hn2 : (Sum.inr t.1 : Key) ∈ kvs.map (·.1) := by
    rw [ek]
    exact List.mem_map.mpr ⟨t, m, rfl⟩
  refine ⟨_, hD, by rw [keys_put hn2, ek], fun u mu => ?_⟩
  rw [valV_put]
  unfold gL setR
  by_cases q : u.1 = t.1
  · rw [if_pos (by rw [q]), if_pos q]
    exact ⟨v, rfl, hv⟩
  · rw [if_neg (fun z => q (Sum.inr.inj z)), if_neg q]
    exact val u mu
section
variable {P : Program} {w : World} {K : PySem.W.Frag} {mg : Str → Option Value} {base : Heap} {CS CT CR CN CM CI : Addr}
def spTells (CS CT : Addr) : Sp := fun vs H Q _ => ∃ (F : Hp) (st p rd : Addr) (ts : List Tab) (R : Str → List (List Int)) (N : Nat), vs = [.ref st, .ref p, .ref rd] ∧ Same F H ∧ TbAt F p ts ∧ TsOk ts ∧ StAt CS CT F st ts (gT R) ∧ RsAt F rd ts (gL R) ∧ Rok ts R N ∧ N ≤ 60 ∧ ∀ H', Same H H' → Q (.bl true) H'
abbrev s_l_tells : Stmt := topS 38
abbrev sc_l_tellsN : List Str := ["_law_store", "_law_tables_here", "_law_rows_here", "_law_name_here", "_law_fields"]
abbrev ps_l_tells : List Str := ["_law_store", "_law_tables_here", "_law_rows_here"]
theorem sc_l_tells : FnScope sc_l_tellsN ps_l_tells (defScope s_l_tells) := ⟨rfl, rfl, rfl, by decide +kernel, rfl, by decide +kernel, by decide +kernel⟩
theorem ok_l_tells {f : Addr} {fd : FuncData} (F : Fun K "_law_tells" "_law_tells" s_l_tells f fd) (T : Txt K mg CS) (T2 : Tx2 K mg CT) (D_rows_of : DmX P w K mg base CT "rows_of" 4 ps_Store_rows_of (spRowsOf CS CT CN)) (D_l_alike : Df P w K mg base "_law_alike" 40 ps_l_alike (spAlike 40)) : FnOk P w K mg base CX0 41 f fd ps_l_tells (spTells CS CT) := by
  refine F.ok sc_l_tells (fun vs H Q E h => ?_) (fun cdv A outer s H vs Q E hr h => ?_)
  · obtain ⟨_, _, _, _, _, _, _, rfl, _⟩ := h
    rfl
  · obtain ⟨F0, st, p, rd, ts, R, N, rfl, sF, ⟨xs, hp, ta⟩, ok, stA, rsA, rok, hN, k⟩ := h
    refine ⟨_, (pss_cons (ps_for PassesOwn.never rfl (pi_list (pv 1)) (pg_tup (by rfl) (pgs_cons (pg_name (i := 3) sc_l_tells.nd rfl (Or.inl rfl)) (pgs_cons (pg_name (i := 4) sc_l_tells.nd rfl (Or.inl rfl)) pgs_nil)))
    (pss_one (ps_if (pt_not (pt_val (pe_d D_l_alike (hr.mono (by decide)) (pa_cons (pe_dmE (W := fun _ _ _ _ => False) (pv 0) T2.clT D_rows_of (hr.mono (by decide)) takes0 (pa_cons (pv 3) pa_nil)) (pa_cons (pe_dget (Nat.lt_of_le_of_lt (Nat.add_le_add_left (by decide) _) hr.units) (pv 2) (pv 3) (fun _ _ => rfl)) pa_nil)))))
      (pss_one (ps_ret pe_bl))
      pss_nil)))
  (pss_one (ps_ret pe_bl))), ?_⟩
    obtain ⟨dx, sh, rr, hst, _⟩ := id stA
    obtain ⟨kvs, hrd, ek, val⟩ := id rsA
    have sqp : ∀ {H'}, Same H H' → SqL K H' p xs := fun s => .inl (.inl (s _ _ (sF _ _ hp)))
    refine ⟨_, rfl, p, rfl, ⟨_, sqp (Same.refl _)⟩, for_it walk_list (fun i σ H' => ∃ v3 v4, σ = [some (.ref st), some (.ref p), some (.ref rd), v3, v4] ∧ Same H H') ⟨_, _, rfl, Same.refl _⟩ (fun i σ H' _ z => by obtain ⟨_, _, _, z⟩ := z; exact sqp z) ?_ ?_⟩
    · rintro i x σ H2 H3 hi ⟨v3, v4, rfl, s2⟩ ⟨rfl, hx⟩
      obtain ⟨c, hc, hxc⟩ := ta.at hx
      rw [List.getElem?_map] at hc
      obtain ⟨t, ht, rfl⟩ := Option.map_eq_some_iff.mp hc
      have mt := List.mem_of_getElem? ht
      obtain ⟨a, q, rfl, ha, hq⟩ := tab_in hxc
      have s2F := sF.trans s2
      refine ⟨a, _, rfl, .inl (.inl (s2F _ _ ha)), rfl, _, _, rfl, _, _, rfl, rfl, ?_⟩
      refine ⟨_, rfl, st, dx, _, rfl, s2F _ _ hst, rfl, _, rfl, F0, st, .str t.1, .str t.1, ts, gT R, rfl, s2F, .str _, (by show 1 ≤ 100000; decide), stA, ok, fun _ _ => rfl, fun u mu ed p1 ys hp1 dys => ?_, fun no => absurd rfl (no t mt)⟩
      have eu := tab_eq ok.nd mt mu (PyData.str.inj ed).symm
      subst eu
      obtain ⟨y, hy, ty⟩ := val u mt
      obtain ⟨b1, b2⟩ := rok_bd ok rok hN mt
      have s3 : Same H3 (upd H3 p1 (.lst ys)) := same_new _ hp1
      refine ⟨_, rfl, _, rfl, rd, _, rfl, .inl ⟨kvs, Sum.inr u.1, .inl (s3 _ _ (s2F _ _ hrd)), rfl, hy.symm⟩, ?_⟩
      refine ⟨.ref p1, y, .list ((R u.1).map rowD), rfl, .lst upd_same (dys.same (s2F.trans s3)), ty.same (s2F.trans s3), ?_, ?_, fun H4 s4 => ⟨_, rfl, iteF ⟨_, _, rfl, s2.trans (s3.trans s4)⟩⟩⟩
      · show 1 + depL ((R u.1).map rowD) < 40
        omega
      · show 1 + sizL ((R u.1).map rowD) ≤ 100000
        omega
    · rintro σ H2 ⟨v3, v4, rfl, s2⟩
      exact k _ s2
end
end Fm

/-! ## FmTry -/
set_option Elab.async false
set_option maxRecDepth 100000
set_option maxHeartbeats 4000000
/-! A try whose clauses are of both kinds, 'except A' and 'except B as e'. -/
namespace Fm
open PySem PySem.Spec PyProof.Rows L2
/-- an error that has been caught and waits for its clause -/
structure Caught (X : Cx) (pins : List (Addr × Obj)) (σ : L2.St) (H : Hp) (a : Addr) (B : Heap) (cls : Value) (d : Option Addr) (sI s : Shared) : Prop where
  inv : Inv X pins σ H sI
  nb : ∀ b o, sI.heap.get? b = some o → b ∉ frs X.stack → B.get? b = some o
  up : sI.heap.UpToSlots s.heap
  fl : HandSPX.FlyingZ B (X.env :: X.outer) a (Zc cls d) s.heap
  na : H a = none
  os : s.os = sI.os
  ag : AllBare s.gens
/-- what a clause does, told of the slots ahead of it and behind it -/
def tAs (i : Nat) (ts : Addr → Value → Option Addr → TS) : Addr → Value → Option Addr → TS := fun a cls d D σ H =>
  ts a cls d ⟨fun σ' => D.nx (σ'.set i none), D.rt, fun σ' => D.bk (σ'.set i none), fun σ' => D.ct (σ'.set i none)⟩ (σ.set i (some (.ref a))) H
inductive Clauses (X : Cx) : List ExceptHandler → List (Value × (Addr → Value → Option Addr → TS)) → Prop
  | nil : Clauses X [] []
  | bare {x : Str} {c : Value} {ts : Addr → Value → Option Addr → TS} {b₀ : Stmt} {bs : List Stmt} {np p : Pos} {hs : List ExceptHandler} {l : List (Value × (Addr → Value → Option Addr → TS))} (hc : Names X x c)
      (su : ∀ (a : Addr) (oe : Obj) (cls : Value) (d : Option Addr) (pn : List (Addr × Obj)), Zc cls d oe → (∃ vs, oe.data = .fields vs) → PSs (X.suite a ((a, oe) :: pn)) (b₀ :: bs) (ts a cls d)) (r : Clauses X hs l) :
      Clauses X (.ExceptHandler (some (.Name x np)) none (b₀ :: bs) p :: hs) ((c, ts) :: l)
  | named {x n : Str} {i : Nat} {c : Value} {ts : Addr → Value → Option Addr → TS} {b₀ : Stmt} {bs : List Stmt} {np p : Pos} {hs : List ExceptHandler} {l : List (Value × (Addr → Value → Option Addr → TS))} (hN : X.N.Nodup) (hi : X.N[i]? = some n) (hk : X.env.kindOf n = some .local) (hc : Names X x c)
      (su : ∀ (a : Addr) (oe : Obj) (cls : Value) (d : Option Addr) (pn : List (Addr × Obj)), Zc cls d oe → (∃ vs, oe.data = .fields vs) → PSs (X.suite a ((a, oe) :: pn)) (b₀ :: bs) (ts a cls d)) (r : Clauses X hs l) :
      Clauses X (.ExceptHandler (some (.Name x np)) (some n) (b₀ :: bs) p :: hs) ((c, tAs i ts) :: l)
section
variable {X : Cx} {pins : List (Addr × Obj)} {σ : L2.St} {H : Hp} {a : Addr} {B : Heap} {cls c : Value} {d : Option Addr} {sI s : Shared} {x n : Str} {np : Pos} {W : WX} {D : Ends}
theorem Caught.now (C : Caught X pins σ H a B cls d sI s) : Inv X pins σ H s := C.inv.landed C.nb C.fl.1 C.up C.os C.ag
theorem Caught.free (C : Caught X pins σ H a B cls d sI s) {o : Obj} {vs : Array Value} (e : s.heap.get? a = some o) (hd : o.data = .fields vs) : a ∉ frs (X.env :: X.outer) := fun hm => by
  obtain ⟨_, o2, e2, no⟩ := C.fl.2.2.1.mem hm
  rw [e] at e2
  cases e2
  exact no _ hd
theorem Caught.suite (C : Caught X pins σ H a B cls d sI s) (hf : X.env.frame = some X.env.locals) : ∃ oe, Zc cls d oe ∧ (∃ vs, oe.data = .fields vs) ∧ s.heap.get? a = some oe ∧ Inv (X.suite a ((a, oe) :: (X.pn ++ pins))) [] σ H s := by
  obtain ⟨oe, vs, e, z, hd⟩ := C.fl.there
  have no := C.free e hd
  refine ⟨oe, z, ⟨vs, hd⟩, e, C.now.suite e hd C.na (fun q => no ?_) fun q => ?_⟩
  · exact List.mem_filterMap.mpr ⟨X.env, List.mem_cons_self, by rw [hf, q]⟩
  · obtain ⟨v, hv, e2⟩ := List.mem_filterMap.mp q
    exact no (List.mem_filterMap.mpr ⟨v, List.mem_cons_of_mem _ hv, e2⟩)
/-- the clause's class is looked at -/
theorem Caught.asks (C : Caught X pins σ H a B cls d sI s) (hf : X.env.frame = some X.env.locals) (hc : Names X x c) {b : Bool} (hb : PySem.W.exmOne X.K cls c = some b) {Q : Bool → Shared → Prop} {E E' : Value → Shared → Prop} (q : Q b s) :
    wpAny (model X.prog X.w) (X.A.mark (some (.ref a))) (eval (.Name x np) X.env) (fun u s1 => wpAny (model X.prog X.w) (X.A.mark (some (.ref a))) (excMatches (.ref a) u) Q E' s1) E s := by
  obtain ⟨oe, z, _, e, S⟩ := C.suite hf
  have ty : PySem.W.Looks (model X.prog X.w) s.heap (typeOf (.ref a)) cls := fun A' Q' E2 s2 k h => wpAny_typeOf_ref (k _ _ e) (by rw [z.1]; exact h)
  have m := PySem.W.exm_one (M := model X.prog X.w) C.now.kIn ty hb
  obtain ⟨g, nd, h | ⟨h1, h2, h3⟩⟩ := hc
  · exact ld_glob (X := X.suite a ((a, oe) :: (X.pn ++ pins))) S g h (m.here q) nd
  · exact ld_blt (X := X.suite a ((a, oe) :: (X.pn ++ pins))) S g h1 h2 (m.here q) h3 nd
/-- the error lands in its suite -/
theorem Caught.lands (C : Caught X pins σ H a B cls d sI s) {M : Model} {A : Around} {E : Value → Shared → Prop} {Q : Unit → Shared → Prop} (h : ∀ s', Caught X pins σ H a B cls d sI s' → Q () s') : wpAny M A (setFlight (.ref a) none) Q E s :=
  HandSPX.lands_againZ C.fl fun h' f u => h _ ⟨C.inv, C.nb, C.up.trans u, f, C.na, C.os, C.ag⟩
/-- no clause takes it: it goes on -/
theorem Caught.goes (C : Caught X pins σ H a B cls d sI s) (hst : X.stack = X.env :: X.outer) (hf : X.env.frame = some X.env.locals) (tk : Takes X W) (w : W cls d σ H) : wpAny (model X.prog X.w) X.A (handleBy (.ref a) X.env []) (SP X pins D) X.xe s := by
  obtain ⟨_, _, _, oe, vs, t, _, _, e, _, hd, h1, _⟩ := id C.fl
  refine wpAny_handleBy_nil ?_
  unfold PySem.passOn
  refine wpAny_bind (wpAny_field e hd h1 ?_)
  rw [if_neg (show (Value.ref t == Value.none) ≠ true from by simp), hf]
  have last : wpAny (model X.prog X.w) X.A (setFlight (.ref a) (some X.env.locals)) (fun _ s2 => wpAny (model X.prog X.w) X.A (throw (.ref a) : Sem Flow) (SP X pins D) X.xe s2) X.xe s :=
    HandSPX.setFlight_upZ C.fl fun h' f u => wpAny_throw (tk _ _ ⟨a, B, sI, pins, σ, H, cls, d, rfl, C.inv, C.nb, C.up.trans u, .inr (.inr (by rw [hst]; exact f)), C.na, C.os, C.ag, w⟩)
  first
    | exact wpAny_bind (wpAny_pure (wpAny_bind last))
    | exact wpAny_bind last
/-- behind a suite the rest stands as it would without it -/
theorem leave {a : Addr} {q : Addr × Obj} {f : Flow} {s : Shared} (ok : X.Ok) (h : SP (X.suite a (q :: (X.pn ++ pins))) [] D f s) : SP X pins D f s := by
  cases f with
  | next => exact let ⟨_, _, I, z⟩ := h; ⟨_, _, I.unsuite ok, z⟩
  | brk => exact let ⟨_, _, I, z⟩ := h; ⟨_, _, I.unsuite ok, z⟩
  | cont => exact let ⟨_, _, I, z⟩ := h; ⟨_, _, I.unsuite ok, z⟩
  | ret u => exact let ⟨_, _, _, I, r, z⟩ := h; ⟨_, _, _, I.unsuite ok, r, z⟩
theorem Caught.handled {hs : List ExceptHandler} {l : List (Value × (Addr → Value → Option Addr → TS))} (k : Clauses X hs l) (hst : X.stack = X.env :: X.outer) (hf : X.env.frame = some X.env.locals) (tk : Takes X W) :
    ∀ {s : Shared}, Caught X pins σ H a B cls d sI s → wMany X.K W D l cls d σ H → wpAny (model X.prog X.w) X.A (handleBy (.ref a) X.env hs) (SP X pins D) X.xe s := by
  induction k with
  | nil => exact fun C w => C.goes hst hf tk w
  | bare hc su r ih =>
    intro s C ⟨b, hb, yes, no⟩
    refine wpAny_handleBy_cons (codeAny_handlers_test (C.asks hf hc hb ?_)) (fun z => nomatch z)
    cases b with
    | false => exact ih C (no rfl)
    | true =>
      refine codeAny_handlers_suite (C.lands fun s2 C2 => ?_)
      obtain ⟨oe, z, f, _, S⟩ := C2.suite hf
      exact wpAny_mono ((su a oe cls d (X.pn ++ pins) z f).run [] _ _ H _ S (yes rfl a C.na)) (fun g s3 h => by
        have q := leave C.inv.ok h
        cases g <;> exact q) fun _ _ z => z.elim
  | @named x n i c ts b₀ bs np p hs l hN hi hk hc su r ih =>
    intro s C ⟨b, hb, yes, no⟩
    refine wpAny_handleBy_cons (codeAny_handlers_test (C.asks hf hc hb ?_)) (fun z => nomatch z)
    cases b with
    | false => exact ih C (no rfl)
    | true =>
      refine codeAny_handlers_suite_as (C.lands fun s2 C2 => ?_)
      obtain ⟨oe, z, f, _, S⟩ := C2.suite hf
      refine store_ok (X := X.suite a ((a, oe) :: (X.pn ++ pins))) (v := .ref a) S hN hi (.inl hk) rfl (fun s3 S3 => ?_) (.inr hk)
      refine wpAny_mono ((su a oe cls d (X.pn ++ pins) z f).run [] s3 _ H _ S3 (yes rfl a C.na)) (fun g s4 h => ?_) fun _ _ z => z.elim
      have q := leave C.inv.ok h
      cases g with
      | next => exact let ⟨_, _, I, z⟩ := q; gone_ok I hN hi hk fun s5 J => ⟨_, _, J, z⟩
      | brk => exact let ⟨_, _, I, z⟩ := q; gone_ok I hN hi hk fun s5 J => ⟨_, _, J, z⟩
      | cont => exact let ⟨_, _, I, z⟩ := q; gone_ok I hN hi hk fun s5 J => ⟨_, _, J, z⟩
      | ret u => exact let ⟨_, _, _, I, r, z⟩ := q; gone_ok I hN hi hk fun s5 J => ⟨_, _, _, J, r, z⟩
end
section
variable {X : Cx} {body : List Stmt} {h₀ : ExceptHandler} {hs : List ExceptHandler} {l : List (Value × (Addr → Value → Option Addr → TS))} {pos : Pos} {tb : WX → TS} {W : WX}
/-- try with clauses of both kinds, no else, no finally -/
theorem ps_tryM (hst : X.stack = X.env :: X.outer) (hf : X.env.frame = some X.env.locals) (tk : Takes X W)
    (hb : ∀ (W : WX) (pn : List (Addr × Obj)) (xe : Value → Shared → Prop), Takes (X.tr pn xe) W → PassesOwn (model X.prog X.w) X.A X.env xe → PSs (X.tr pn xe) body (tb W))
    (k : Clauses X (h₀ :: hs) l) : PS X (.Try body (h₀ :: hs) [] [] pos) (fun D σ H => tb (wMany X.K W D l) D σ H) := by
  refine ⟨fun pins s σ H D I h => wpAny_Try_except (wpAny_mono ((hb (wMany X.K W D l) (X.pn ++ pins) _ (fun u s' y => ?_) PassesOwn.looking).run [] s σ H D (I.toTry _) h) (fun f s1 q => ?_) (fun e s1 z => z))⟩
  · obtain ⟨a, B, sI, pins', σ', H', cls, d, rfl, J, nb, up, sky, na, os, ag, w⟩ := y
    have fr : X.A.frames = some (X.env :: X.outer) := by rw [I.ok.frames, hst]
    refine Sky.land Zc.steady fr hf (by rw [← hst]; exact sky) fun h3 fl u => ?_
    exact Caught.handled k hst hf tk (s := { s' with heap := h3 }) ⟨J.ofTry I.ok, nb, up.trans u, fl, na, os, ag⟩ w
  · cases f with
    | next => exact let ⟨_, _, J, z⟩ := q; wpAny_execs_nil ⟨_, _, J.ofTry I.ok, z⟩
    | brk => exact let ⟨_, _, J, z⟩ := q; ⟨_, _, J.ofTry I.ok, z⟩
    | cont => exact let ⟨_, _, J, z⟩ := q; ⟨_, _, J.ofTry I.ok, z⟩
    | ret u => exact let ⟨_, _, _, J, r, z⟩ := q; ⟨_, _, _, J.ofTry I.ok, r, z⟩
end
end Fm

/-! ## K06K -/
set_option Elab.async false
set_option maxRecDepth 100000
set_option maxHeartbeats 8000000
namespace Fm
open PySem L2
theorem Xf.glob {P : Program} {w : World} {K : PySem.W.Frag} {mg : Str → Option Value} {base : Heap} {x f : Str} {C : Addr} (B : Xf P w K mg base x C f) : mg x = some (.ref C) := by
  obtain ⟨_, _, _, _, _, _, h, _⟩ := B.ex
  exact h
/-- the errors that the law catches -/
structure Er (K : PySem.W.Frag) (CR CI : Addr) : Prop where
  rr : PySem.W.exmOne K (.ref CR) (.ref CR) = some true
  ii : PySem.W.exmOne K (.ref CI) (.ref CI) = some true
  xR : XfC K CR
  fR : PySem.W.findIn K (.ref CR) "value" = some none
  xI : XfC K CI
  fI : PySem.W.findIn K (.ref CI) "value" = some none
theorem Grow.of {F H H' : Hp} (s : Same F H) (t : Same H H') : Grow F H F H' := ⟨Same.refl _, s.trans t, fun a o e1 e2 => ⟨e1, t _ _ e2⟩⟩
theorem Bag.bare {F F1 H : Hp} {b p : Addr} {o : HO} (B : Bag F1 H b) (s : Same F F1) (h : H p = none) : Bag (upd F p o) (upd H p o) b := (bag_sub s B).new o h
theorem set_len {α : Type} {vs : List α} {i : Nat} {v : α} : (vs.set i v).length = vs.length := List.length_set ..
/-- the odd things of a row -/
def oddD (d : PyData) : Prop := isValD d = false ∧ siz d ≤ 2 ∧ dep d ≤ 1
theorem okRow_odd {w : Nat} {ds : List PyData} {i : Nat} {d : PyData} (h : i < ds.length) (hd : isValD d = false) : okRow w (.list (ds.set i d)) = false := by
  have z : (ds.set i d).all isValD = false := by
    rw [List.all_eq_false]
    exact ⟨d, List.mem_iff_getElem.mpr ⟨i, by rw [List.length_set]; exact h, List.getElem_set_self _⟩, by rw [hd]; exact Bool.false_ne_true⟩
  show (rowD3 w w (.list (ds.set i d)) && (ds.set i d).all isValD) = false
  rw [z, Bool.and_false]
theorem depL_set : ∀ (ds : List PyData) (i : Nat) (e : PyData), depL (ds.set i e) ≤ max (depL ds) (dep e)
  | [], _, _ => Nat.zero_le _
  | d :: ds, 0, e => by
    show max (dep e) (depL ds) ≤ max (max (dep d) (depL ds)) (dep e)
    omega
  | d :: ds, i + 1, e => by
    show max (dep d) (depL (ds.set i e)) ≤ max (max (dep d) (depL ds)) (dep e)
    have z := depL_set ds i e
    omega
theorem sizL_set : ∀ (ds : List PyData) (i : Nat) (e : PyData), sizL (ds.set i e) ≤ sizL ds + siz e
  | [], _, _ => Nat.zero_le _
  | d :: ds, 0, e => by
    show siz e + sizL ds ≤ siz d + sizL ds + siz e
    omega
  | d :: ds, i + 1, e => by
    have z := sizL_set ds i e
    show siz d + sizL (ds.set i e) ≤ siz d + sizL ds + siz e
    omega
section
variable {P : Program} {w : World} {K : PySem.W.Frag} {mg : Str → Option Value} {base : Heap} {CS CT CR CN CM CI : Addr}
def spDeed (CS CT : Addr) : Sp := fun vs H Q _ => ∃ (G F : Hp) (b p st rd : Addr) (ts : List Tab) (R : Str → List (List Int)) (N : Nat), vs = [.ref b, .ref p, .ref st, .ref rd] ∧ Same G F ∧ Bag F H b ∧ TbAt G p ts ∧ TsOk ts ∧ StAt CS CT G st ts (gT R) ∧ RsAt G rd ts (gL R) ∧ Rok ts R N ∧ N ≤ 59 ∧
  ∀ x G' F' H' st' rd' R', Grow G F G' F' → Bag F' H' b → G' x = some (.tup [.ref st', .ref rd']) → StAt CS CT G' st' ts (gT R') → RsAt G' rd' ts (gL R') → Rok ts R' (N + 1) → Q (.ref x) H'
abbrev s_l_deed : Stmt := topS 37
abbrev sc_l_deedN : List Str := ["_law_bag_here", "_law_tables_here", "_law_store", "_law_rows_here", "_law_name_here", "_law_fields", "_law_kept", "_law_due", "_law_refused", "_law_made", "_law_field", "_law_row", "_law_wrong", "_law_handed", "e", "_law_at"]
abbrev ps_l_deed : List Str := ["_law_bag_here", "_law_tables_here", "_law_store", "_law_rows_here"]
theorem sc_l_deed : FnScope sc_l_deedN ps_l_deed (defScope s_l_deed) := ⟨rfl, rfl, rfl, by decide +kernel, rfl, by decide +kernel, by decide +kernel⟩
theorem ok_l_deed {f : Addr} {fd : FuncData} (F : Fun K "_law_deed" "_law_deed" s_l_deed f fd) (T : Txt K mg CS) (T2 : Tx2 K mg CT) (R0 : Er K CR CI) (X_BadRows : Xf P w K mg base "BadRows" CR "value") (X_BadIndex : Xf P w K mg base "BadIndex" CI "value")
    (D_l_pick : Df P w K mg base "_law_pick" 1 ps_l_pick spPick) (D_l_value : Df P w K mg base "_law_value" 2 ps_l_value spValue) (D_l_alike : Df P w K mg base "_law_alike" 40 ps_l_alike (spAlike 40))
    (D_with_row : DmX P w K mg base CT "with_row" 44 ps_Store_with_row (spWithRow CS CT CR CN)) (D_without_row : DmX P w K mg base CT "without_row" 44 ps_Store_without_row (spWithout CS CT CR CN CI)) :
    FnOk P w K mg base CX0 45 f fd ps_l_deed (spDeed CS CT) := by
  refine F.ok sc_l_deed (fun vs H Q E h => ?_) (fun cdv A outer s H vs Q E hr h => ?_)
  · obtain ⟨_, _, _, _, _, _, _, _, _, rfl, _⟩ := h
    rfl
  · obtain ⟨G, F, b, p, st, rd, ts, R, N, rfl, sGF, B, ⟨xs, hp, ta⟩, ok, stA, rsA, rok, hN, kQ⟩ := h
    refine ⟨_, (pss_cons (ps_asg (pe_ix ix_list (pv 1) (pe_d D_l_pick (hr.mono (by decide)) (pa_cons (pv 0) (pa_cons (pe_callB call_len_seq (by rfl) T.n_len (by decide +kernel) (pa_cons (pv 1) pa_nil)) pa_nil))) (fun _ _ => rfl)) (pg_tup (by rfl) (pgs_cons (pg_name (i := 4) sc_l_deed.nd rfl (Or.inl rfl)) (pgs_cons (pg_name (i := 5) sc_l_deed.nd rfl (Or.inl rfl)) pgs_nil))))
  (pss_cons (ps_set (i := 6) sc_l_deed.nd rfl (Or.inl rfl) (pe_dget (Nat.lt_of_le_of_lt (Nat.add_le_add_left (by decide) _) hr.units) (pv 3) (pv 4) (fun _ _ => rfl)))
  (pss_cons (ps_set (i := 7) sc_l_deed.nd rfl (Or.inl rfl) (pe_callTy call_dictD (by rfl) T.n_dict (by decide +kernel) (pa_cons (pv 3) pa_nil)))
  (pss_cons (ps_set (i := 8) sc_l_deed.nd rfl (Or.inl rfl) pe_non)
  (pss_cons (ps_set (i := 9) sc_l_deed.nd rfl (Or.inl rfl) pe_non)
  (Evl.pss_cut (ps_if (pt_cmpR op_lt (pe_d D_l_pick (hr.mono (by decide)) (pa_cons (pv 0) (pa_cons pe_int pa_nil))) pe_int (nomark _))
    (pss_cons (ps_setLc (i := 11) (own := [("_law_field", 10)]) (g := gName 10) (tt := tYes) (by rfl) sc_l_deed.nd rfl rfl (sw_true rfl rfl rfl (by decide +kernel)) (pi_tup (pv 5)) (blkOk_by (own := [("_law_field", 10)]) (N := sc_l_deedN) (sc := defScope s_l_deed) (by decide +kernel)) (fun _ _ _ _ _ => pg_name (i := 10) sc_l_deed.nd rfl (Or.inl rfl)) (fun _ _ _ _ _ => pts_nil) (fun _ _ _ _ _ => (pe_d D_l_value (hr.mono (by decide)) (pa_cons (pv 0) pa_nil))))
    (pss_cons (ps_set (i := 12) sc_l_deed.nd rfl (Or.inl rfl) (pe_cmpR op_eq (pe_d D_l_pick (hr.mono (by decide)) (pa_cons (pv 0) (pa_cons pe_int pa_nil))) pe_int (nomark _)))
    (Evl.pss_cut (ps_if (pt_val (pv 12))
      (pss_one (ps_asg (pe_ix ix_list (pe_lst (pa_cons pe_non (pa_cons pe_bl (pa_cons (pe_op op_add (pe_op op_pow pe_int pe_int) pe_int) (pa_cons pe_str (pa_cons (pe_lst (pa_cons pe_int pa_nil)) pa_nil)))))) (pe_d D_l_pick (hr.mono (by decide)) (pa_cons (pv 0) (pa_cons pe_int pa_nil))) (fun _ _ => rfl)) (pg_sub (pv 11) (pe_d D_l_pick (hr.mono (by decide)) (pa_cons (pv 0) (pa_cons (pe_callB call_len_seq (by rfl) T.n_len (by decide +kernel) (pa_cons (pv 11) pa_nil)) pa_nil))) set_list)))
      pss_nil)
    (pss_cons (ps_set (i := 13) sc_l_deed.nd rfl (Or.inl rfl) (pe_callTy call_list_of (by rfl) T.n_list (by decide +kernel) (pa_cons (pv 11) pa_nil)))
    (Evl.pss_cut (ps_try_as (i := 14) (Wout := fun _ _ _ _ => False) rfl rfl sc_l_deed.nd rfl rfl ⟨rfl, by decide, Or.inl X_BadRows.glob⟩ takes0
      (fun W pn xe tk _ => by exact (pss_one (ps_set (i := 9) sc_l_deed.nd rfl (Or.inl rfl) (pe_dmE (pv 2) T2.clT D_with_row (hr.mono (by decide)) tk (pa_cons (pv 4) (pa_cons (pv 13) pa_nil))))))
      (fun a oe cls d pn hz hf => by exact (pss_one (ps_set (i := 8) sc_l_deed.nd rfl (Or.inl rfl) (pe_xk (K := K) hz hf (pv 14))))))
    (pss_cons (ps_if (pt_not (pt_val (pe_d D_l_alike (hr.mono (by decide)) (pa_cons (pv 13) (pa_cons (pv 11) pa_nil)))))
      (pss_one (ps_ret pe_non))
      pss_nil)
    (pss_cons (ps_expr (pe_bm0 PySem.F.plainAttrs_list PySem.F.slot_list_reverse PySem.F.type_list_reverse mt_reverse (pv 13)))
    (pss_cons (ps_expr (pe_bm PySem.F.plainAttrs_list PySem.F.slot_list_append PySem.F.type_list_append mt_append (pv 13) (pa_cons pe_int pa_nil)))
    (Evl.pss_cut (ps_if (PW.pt (pw_and (pt_val (pv 12)) (pw_and1 (pt_not (pt_val (pe_d D_l_alike (hr.mono (by decide)) (pa_cons (pv 8) (pa_cons (pe_tup (pa_cons (pv 4) (pa_cons (pe_callB call_len_seq (by rfl) T.n_len (by decide +kernel) (pa_cons (pv 6) pa_nil)) pa_nil))) pa_nil))))))))
      (pss_one (ps_ret pe_non))
      pss_nil)
    (pss_one (ps_asg (pe_op op_cat (pv 6) (pe_lst (pa_cons (pe_callTy call_tuple_of (by rfl) T.n_tuple (by decide +kernel) (pa_cons (pv 11) pa_nil)) pa_nil))) (pg_sub (pv 7) (pv 4) (set_dict (Nat.lt_of_le_of_lt (Nat.add_le_add_left (by decide) _) hr.units))))))))))))))
    (pss_cons (ps_set (i := 15) sc_l_deed.nd rfl (Or.inl rfl) (pe_op op_sub (pe_d D_l_pick (hr.mono (by decide)) (pa_cons (pv 0) (pa_cons (pe_op op_add (pe_callB call_len_seq (by rfl) T.n_len (by decide +kernel) (pa_cons (pv 6) pa_nil)) pe_int) pa_nil))) pe_int))
    (Evl.pss_cut (ps_set (i := 12) sc_l_deed.nd rfl (Or.inl rfl) (pe_or (pe_cmpR op_lt (pv 15) pe_int (nomark _)) (pe_one (pe_cmpR op_ge (pv 15) (pe_callB call_len_seq (by rfl) T.n_len (by decide +kernel) (pa_cons (pv 6) pa_nil)) (nomark _)))))
    (Evl.pss_cut (ps_try_as (i := 14) (Wout := fun _ _ _ _ => False) rfl rfl sc_l_deed.nd rfl rfl ⟨rfl, by decide, Or.inl X_BadIndex.glob⟩ takes0
      (fun W pn xe tk _ => by exact (pss_one (ps_set (i := 9) sc_l_deed.nd rfl (Or.inl rfl) (pe_dmE (pv 2) T2.clT D_without_row (hr.mono (by decide)) tk (pa_cons (pv 4) (pa_cons (pv 15) pa_nil))))))
      (fun a oe cls d pn hz hf => by exact (pss_one (ps_set (i := 8) sc_l_deed.nd rfl (Or.inl rfl) (pe_xk (K := K) hz hf (pv 14))))))
    (Evl.pss_cut (ps_if (PW.pt (pw_and (pt_val (pv 12)) (pw_and1 (pt_not (pt_val (pe_d D_l_alike (hr.mono (by decide)) (pa_cons (pv 8) (pa_cons (pv 15) pa_nil))))))))
      (pss_one (ps_ret pe_non))
      pss_nil)
    (pss_one (ps_asg (pe_op op_cat (pe_slice sl_list (pv 6) po_none (po_some (pe_callB (call_max2 (by rfl)) (by rfl) T.n_max (by decide +kernel) (pa_cons pe_int (pa_cons (pv 15) pa_nil))))) (pe_slice sl_list (pv 6) (po_some (pe_op op_add (pv 15) pe_int)) po_none)) (pg_sub (pv 7) (pv 4) (set_dict (Nat.lt_of_le_of_lt (Nat.add_le_add_left (by decide) _) hr.units))))))))))
  (pss_cons (ps_if (pt_val (pv 12))
    (pss_one (ps_ret (pe_tup (pa_cons (pv 2) (pa_cons (pv 3) pa_nil)))))
    pss_nil)
  (pss_cons (ps_if (pt_cmpR op_notN (pv 8) pe_non (nomark _))
    (pss_one (ps_ret pe_non))
    pss_nil)
  (pss_one (ps_ret (pe_tup (pa_cons (pv 9) (pa_cons (pv 7) pa_nil))))))))))))), ?_⟩
    obtain ⟨dx, sh, rr, hst, _⟩ := id stA
    obtain ⟨kvs, hrd, ek, val⟩ := id rsA
    have lx : xs.length = ts.length := by rw [ta.len, List.length_map]
    have lo := ok.lo
    have hi := ok.hi
    have toH : ∀ {a o}, G a = some o → H a = some o := fun e => B.fh _ _ (sGF _ _ e)
    -- a table
    refine ⟨_, rfl, _, rfl, _, rfl, p, _, rfl, .inl (.inl (.inl (toH hp))), F, b, _, rfl, by omega, by omega, B, fun r1 H1 r10 r11 B1 => ?_⟩
    obtain ⟨i, rfl⟩ : ∃ i : Nat, r1 = (i : Int) := ⟨r1.toNat, by omega⟩
    have hxi : xs[i]? = some (xs[i]'(by omega)) := List.getElem?_eq_getElem _
    obtain ⟨c0, hc0, hxc⟩ := ta.at hxi
    rw [List.getElem?_map] at hc0
    obtain ⟨t, ht, rfl⟩ := Option.map_eq_some_iff.mp hc0
    have mt := List.mem_of_getElem? ht
    obtain ⟨ta1, c, exi, hta, hc⟩ := tab_in hxc
    have toH1 : ∀ {a o}, G a = some o → H1 a = some o := fun e => B1.fh _ _ (sGF _ _ e)
    refine ⟨p, xs, _, _, rfl, rfl, .inl (.inl (toH1 hp)), atI_nat hxi, ?_⟩
    rw [exi]
    refine ⟨ta1, _, rfl, .inl (.inl (toH1 hta)), rfl, _, _, rfl, _, _, rfl, rfl, ?_⟩
    -- its rows, the rows of all
    obtain ⟨y, hy, ty⟩ := val t mt
    obtain ⟨pl, ys, rfl, hpl, tys⟩ := (show Tp G y (.list ((R t.1).map rowD)) from ty).list
    have ly : ys.length = (R t.1).length := by rw [tys.len, List.length_map]
    obtain ⟨rN, rg⟩ := rok t mt
    refine ⟨_, rfl, _, rfl, rd, _, rfl, .inl ⟨kvs, Sum.inr t.1, .inl (toH1 hrd), rfl, hy.symm⟩, ?_⟩
    refine ⟨_, rfl, rd, kvs, rfl, .inl (toH1 hrd), fun D hD => ?_⟩
    have fD : F D = none := B1.fh.free hD
    have gD : G D = none := sGF.free fD
    have g2 : Grow G F G (upd F D (.dK kvs)) := (Grow.refl sGF).side gD fD
    have B2 := B1.new (.dK kvs) hD
    have d2 : (upd F D (.dK kvs)) D = some (.dK kvs) := upd_same
    have s2 : Same G (upd F D (.dK kvs)) := g2.fh
    generalize upd H1 D (.dK kvs) = H2 at *
    generalize upd F D (.dK kvs) = F2 at *
    clear toH1 B1 hD
    have lf := (ok.ok t mt).fs.hi
    have lf1 := (ok.ok t mt).fs.lo
    refine ⟨fun σ' H' => ∃ v8 v9 v10 v11 v13 v14 v15 wr G' F', σ' = [some (.ref b), some (.ref p), some (.ref st), some (.ref rd), some (.str t.1), some (.ref c), some (.ref pl), some (.ref D), some v8, some v9, v10, v11, some (.bl wr), v13, v14, v15] ∧ Bag F' H' b ∧ Grow G F G' F' ∧
      (wr = false → v8 = .non ∧ ∃ x R', v9 = .ref x ∧ StAt CS CT G' x ts (gT R') ∧ RsAt G' D ts (gL R') ∧ Rok ts R' (N + 1)), ?_, ?_⟩
    · refine ⟨_, rfl, F2, b, 5, rfl, by decide, by decide, B2, fun r3 H3 r30 r31 B3 => ⟨_, _, rfl, rfl, _, rfl, ifd (fun _ => ?_) fun _ => ?_⟩⟩
      · -- one row more
        refine ⟨_, rfl, c, rfl, ⟨_, .inl (.inl (B3.fh _ _ (s2 _ _ hc)))⟩, fun D1 hD1 => ?_⟩
        refine lc_it (walk_tup (xs := t.2.map V.str)) (fun e H' => ∃ zs : List Int, zs.length = e ∧ (∀ z ∈ zs, -1000000000 ≤ z ∧ z ≤ 1000000000) ∧ Bag (upd F2 D1 (.lst (zs.map V.int))) H' b) ⟨[], rfl, (fun _ z => by cases z), B3.new _ hD1⟩ (fun e H' _ z => by obtain ⟨zs, _, _, B5⟩ := z; exact .inl (.inl (B5.fh _ _ (by rw [upd_ne (ne_of_none (s2 _ _ hc) (B3.fh.free hD1))]; exact s2 _ _ hc)))) ?_ ?_
        · rintro e x6 H6 H66 he ⟨zs, lz2, vz, B5⟩ ⟨rfl, hx6⟩
          rw [List.length_map] at he
          refine ⟨rfl, _, rfl, _, b, rfl, B5, fun z H7 z1 z2 B7 => ⟨_, B7.fh _ _ upd_same, by rw [List.length_map]; exact Nat.lt_of_le_of_lt (show zs.length ≤ 100 by omega) (by decide), zs ++ [z], by rw [List.length_append, lz2]; rfl, fun y my => ?_, ?_⟩⟩
          · rcases List.mem_append.mp my with my | my
            · exact vz y my
            · rw [List.mem_singleton.mp my]
              exact ⟨z1, z2⟩
          · have y := B7.put (.lst ((zs ++ [z]).map V.int)) upd_same
            rw [upd_upd, List.map_append] at y
            rw [List.map_append]
            exact y
        rintro H5 ⟨zs, lz, vz, B5⟩
        rw [List.length_map] at lz
        have f2D1 : F2 D1 = none := B3.fh.free hD1
        have gD1 : G D1 = none := s2.free f2D1
        have fD1 : F D1 = none := (g2.same sGF).free f2D1
        have g5 : Grow G F G (upd F2 D1 (.lst (zs.map V.int))) := g2.side gD1 fD1
        have d5 : (upd F2 D1 (.lst (zs.map V.int))) D = some (.dK kvs) := by rw [upd_ne (ne_of_none d2 f2D1)]; exact d2
        have e5 : (upd F2 D1 (.lst (zs.map V.int))) D1 = some (.lst (zs.map V.int)) := upd_same
        have nDD : D ≠ D1 := ne_of_none d2 f2D1
        generalize upd F2 D1 (.lst (zs.map V.int)) = F5 at *
        clear B3 B2 s2 g2 hD1 f2D1 d2
        -- is it to be wrong
        refine ⟨_, rfl, F5, b, 9, rfl, by decide, by decide, B5, fun r6 H6 r60 r61 B6 => ⟨rfl, ?_⟩⟩
        generalize decide (V.int r6 = V.int 8) = wr
        have ghost : True := trivial
        refine ⟨fun σ' H' => ∃ vs ds G' F', σ' = [some (.ref b), some (.ref p), some (.ref st), some (.ref rd), some (.str t.1), some (.ref c), some (.ref pl), some (.ref D), some .non, some .non, none, some (.ref D1), some (.bl wr), none, none, none] ∧ Bag F' H' b ∧ Grow G F G' F' ∧ G' D = none ∧ G' D1 = none ∧ F' D = some (.dK kvs) ∧ F' D1 = some (.lst vs) ∧
          TpAll G' vs ds ∧ ds.length = t.2.length ∧ sizL ds ≤ 10 ∧ depL ds ≤ 1 ∧ (wr = true → okRow t.2.length (.list ds) = false) ∧ (wr = false → ds = zs.map PyData.int ∧ goodR t.2.length zs), ?_, ?_⟩
        · refine ⟨_, rfl, _, rfl, ?_⟩
          cases wr with
          | false => exact iteF ⟨zs.map V.int, zs.map PyData.int, G, F5, rfl, B6, g5, gD, gD1, d5, e5, TpAll.ints zs, by rw [List.length_map, lz], by have z := ints_sz zs; omega, by have z := ints_sz zs; omega, (fun z => nomatch z), fun _ => ⟨rfl, lz, vz⟩⟩
          | true =>
            refine iteT ⟨_, _, rfl, rfl, ⟨by decide, by decide⟩, _, _, rfl, rfl, (by show 1 ≤ sizeLine; decide), fun l1 hl1 => ⟨(by show 5 ≤ sizeLine; decide), fun l5 hl5 => ?_⟩⟩
            have f1 := B6.fh.free hl1
            have g6 := g5.trans (Grow.new g5.fh (.lst [.int 1]) f1)
            have l6 : (upd G l1 (.lst [.int 1])) l1 = some (.lst [.int 1]) := upd_same
            have B7 := B6.new (.lst [.int 1]) hl1
            have d6 : (upd F5 l1 (.lst [.int 1])) D = some (.dK kvs) := by rw [upd_ne (ne_of_none d5 f1)]; exact d5
            have e6 : (upd F5 l1 (.lst [.int 1])) D1 = some (.lst (zs.map V.int)) := by rw [upd_ne (ne_of_none e5 f1)]; exact e5
            have gD6 : (upd G l1 (.lst [.int 1])) D = none := by rw [upd_ne (ne_of_none d5 f1)]; exact gD
            have gD16 : (upd G l1 (.lst [.int 1])) D1 = none := by rw [upd_ne (ne_of_none e5 f1)]; exact gD1
            generalize upd H6 l1 (.lst [.int 1]) = H7 at *
            generalize upd F5 l1 (.lst [.int 1]) = F6 at *
            generalize upd G l1 (.lst [.int 1]) = G6 at *
            clear B6 B5 f1 hl1
            have f5 := B7.fh.free hl5
            have B8 := B7.new (.lst [.non, .bl true, .int (10 ^ (9 : Int).toNat + 1), .str "a", .ref l1]) hl5
            have g7 : Grow G F G6 (upd F6 l5 (.lst [.non, .bl true, .int (10 ^ (9 : Int).toNat + 1), .str "a", .ref l1])) := g6.side (g6.fh.free f5) ((g6.same sGF).free f5)
            have at5 : (upd F6 l5 (.lst [.non, .bl true, .int (10 ^ (9 : Int).toNat + 1), .str "a", .ref l1])) l5 = some (.lst [.non, .bl true, .int (10 ^ (9 : Int).toNat + 1), .str "a", .ref l1]) := upd_same
            have d7 : (upd F6 l5 (.lst [.non, .bl true, .int (10 ^ (9 : Int).toNat + 1), .str "a", .ref l1])) D = some (.dK kvs) := by rw [upd_ne (ne_of_none d6 f5)]; exact d6
            have e7 : (upd F6 l5 (.lst [.non, .bl true, .int (10 ^ (9 : Int).toNat + 1), .str "a", .ref l1])) D1 = some (.lst (zs.map V.int)) := by rw [upd_ne (ne_of_none e6 f5)]; exact e6
            refine ⟨_, rfl, _, b, 5, rfl, by decide, by decide, B8, fun r7 H8 r70 r71 B9 => ?_⟩
            obtain ⟨v, hv, hm⟩ := at_mem (xs := [V.non, .bl true, .int (10 ^ (9 : Int).toNat + 1), .str "a", .ref l1]) r70 r71
            refine ⟨l5, _, r7, v, rfl, rfl, .inl (.inl (B9.fh _ _ at5)), hv, ?_⟩
            obtain ⟨d, td, od, zd, pd⟩ : ∃ d, Tp G6 v d ∧ isValD d = false ∧ siz d ≤ 2 ∧ dep d ≤ 1 := by
              simp only [List.mem_cons, List.mem_nil_iff, or_false] at hm
              rcases hm with rfl | rfl | rfl | rfl | rfl
              · exact ⟨_, .non, rfl, by decide, by decide⟩
              · exact ⟨_, .bl true, rfl, by decide, by decide⟩
              · exact ⟨_, .int _, by decide, Nat.le_succ _, Nat.zero_le _⟩
              · exact ⟨_, .str _, rfl, Nat.le_succ _, Nat.zero_le _⟩
              · exact ⟨_, .lst l6 (.cons (.int 1) .nil), rfl, by decide, by decide⟩
            clear hm hv at5 f5 d6 e6
            generalize upd F6 l5 (.lst [.non, .bl true, .int (10 ^ (9 : Int).toNat + 1), .str "a", .ref l1]) = F7 at *
            have lz2 : (zs.map V.int).length = t.2.length := by rw [List.length_map, lz]
            refine ⟨_, rfl, _, rfl, _, rfl, D1, _, rfl, .inl (.inl (.inl (B9.fh _ _ e7))), F7, b, _, rfl, by omega, by omega, B9, fun r8 H9 r80 r81 B10 => ?_⟩
            obtain ⟨j, rfl⟩ : ∃ j : Nat, r8 = (j : Int) := ⟨r8.toNat, by omega⟩
            refine ⟨D1, zs.map V.int, (j : Int), j, rfl, rfl, B10.fh _ _ e7, (by unfold ixN; rw [if_pos (by omega), if_pos (by omega)]; rfl), ?_⟩
            have fD1' : F D1 = none := fD1
            refine ⟨(zs.map V.int).set j v, (zs.map PyData.int).set j d, G6, upd F7 D1 (.lst ((zs.map V.int).set j v)), rfl, B10.put _ e7, g7.side gD16 fD1, gD6, gD16, by rw [upd_ne nDD]; exact d7, upd_same, (TpAll.ints zs).set j td, by rw [List.length_set, List.length_map, lz], ?_, ?_, fun _ => okRow_odd (by rw [List.length_map]; omega) od, fun z => nomatch z⟩
            · have z := ints_sz zs
              have y := sizL_set (zs.map PyData.int) j d
              omega
            · have z := ints_sz zs
              have y := depL_set (zs.map PyData.int) j d
              omega
        clear ghost g5 d5 e5 B5 B6
        rintro σ' H6 ⟨vs, ds, G6, F6, rfl, B6, g6, gD6, gD16, d6, e6, tvs, lds, sds, dds, kT, kF⟩
        refine ⟨_, rfl, D1, vs, rfl, .inl (.inl (.inl (B6.fh _ _ e6))), fun hh hn => ?_⟩
        have fh := B6.fh.free hn
        have gh := g6.fh.free fh
        have B7 := B6.new (.lst vs) hn
        have sG7 : Same G6 (upd G6 hh (.lst vs)) := same_new _ gh
        have sF7 : Same F6 (upd F6 hh (.lst vs)) := same_new _ fh
        have s77 : Same (upd G6 hh (.lst vs)) (upd F6 hh (.lst vs)) := same_upd g6.fh hh _
        have sG : Same G (upd G6 hh (.lst vs)) := g6.ff.trans sG7
        have hF : F hh = none := (g6.same sGF).free fh
        -- with the row
        refine ⟨fun σ' H' => ∃ v8 v9 G' F', σ' = [some (.ref b), some (.ref p), some (.ref st), some (.ref rd), some (.str t.1), some (.ref c), some (.ref pl), some (.ref D), some v8, some v9, none, some (.ref D1), some (.bl wr), some (.ref hh), none, none] ∧ Bag F' H' b ∧ Grow G F G' F' ∧ G' D = none ∧ G' D1 = none ∧ G' hh = none ∧ F' D = some (.dK kvs) ∧ F' D1 = some (.lst vs) ∧ F' hh = some (.lst vs) ∧
          TpAll G' vs ds ∧ (wr = true → Tp G' v8 (.tuple [.str t.1, .int (ys.length : Nat)])) ∧ (wr = false → v8 = .non ∧ ∃ x, v9 = .ref x ∧ StAt CS CT G' x ts (gT (setR R t.1 (R t.1 ++ [zs])))), ?_, ?_⟩
        · refine ⟨_, rfl, st, dx, _, rfl, B7.fh _ _ (s77 _ _ (sG _ _ hst)), rfl, _, rfl, _, rfl, upd G6 hh (.lst vs), st, .str t.1, .ref hh, .str t.1, .list ds, ts, gT R, rfl, s77.trans B7.fh, .str _, (by show 1 ≤ 100000; decide), .lst upd_same (tvs.same sG7), (by show 1 + sizL ds ≤ 10000; omega), (by show 1 + depL ds ≤ 30; omega), stA.same sG, ok, rok_sm ok rok (by omega), fun u mu ed => ?_, fun no => absurd rfl (no t mt)⟩
          have eu := tab_eq ok.nd mt mu (PyData.str.inj ed).symm
          subst eu
          have fb : firstBad (setG (gT R) u.1 (.list ((R u.1).map rowD ++ [PyData.list ds]))) ts = if okRow u.2.length (.list ds) = true then none else some (u.1, (((R u.1).length : Nat) : Int)) := by
            rw [bad_set ok mt rok]
            show ((firstWrong u.2.length ((R u.1).map rowD ++ [PyData.list ds])).map Int.ofNat).map _ = _
            by_cases eo : okRow u.2.length (.list ds) = true
            · rw [if_pos eo, first_none fun j x e => ?_]
              · rfl
              · rcases List.mem_append.mp (List.mem_of_getElem? e) with m | m
                · obtain ⟨r, mr, rfl⟩ := List.mem_map.mp m
                  exact (okRow_good (rg r mr)).1
                · rw [List.mem_singleton.mp m]
                  exact eo
            · have lr : ((R u.1).map rowD).length = (R u.1).length := List.length_map ..
              have fh : firstWrong u.2.length ((R u.1).map rowD ++ [PyData.list ds]) = some (R u.1).length := first_hit (i := (R u.1).length) (r := PyData.list ds) (fun j x hj e => by
                rw [List.getElem?_append_left (by omega), List.getElem?_map] at e
                obtain ⟨r, hr, rfl⟩ := Option.map_eq_some_iff.mp e
                exact (okRow_good (rg r (List.mem_of_getElem? hr))).1) (by
                rw [List.getElem?_append_right (by omega), lr, Nat.sub_self]
                rfl) (by simpa using eo)
              rw [if_neg eo, fh]
              rfl
          refine ⟨fun t2 i2 e2 => ?_, fun hfb => ⟨total_set ok rok (by omega) (by show ((R u.1).map rowD ++ [PyData.list ds]).length ≤ 60; rw [List.length_append, List.length_map]; show (R u.1).length + 1 ≤ 60; omega), fun x G8 H8 gr st2 => ?_⟩⟩
          · have e3 := fb.symm.trans e2
            have ew : wr = true := by
              cases wr with
              | true => rfl
              | false =>
                obtain ⟨q1, q2⟩ := kF rfl
                rw [q1, if_pos (okRow_good q2).2] at e3
                cases e3
            rw [if_neg (by rw [kT ew]; exact Bool.false_ne_true)] at e3
            cases e3
            intro dd tp H8 s8 hdd htp hxd hto
            refine ⟨true, R0.rr, fun _ a1 na => ⟨_, rfl, rfl, CR, dd, _, _, rfl, R0.xR, R0.fR, rfl, hxd, rfl, ?_⟩, fun q => nomatch q⟩
            have ft := B7.fh.free htp
            have n1 : D ≠ tp := ne_of_none (sF7 _ _ d6) ft
            have n2 : D1 ≠ tp := ne_of_none (sF7 _ _ e6) ft
            have n3 : hh ≠ tp := ne_of_none (upd_same : (upd F6 hh (.lst vs)) hh = some (.lst vs)) ft
            have gF : F6 tp = none := sF7.free ft
            have gT' : G6 tp = none := g6.fh.free gF
            rw [← ly] at hto
            have gN := (g6.side gh hF (o := .lst vs)).trans (Grow.new (g6.side gh hF (o := .lst vs)).fh (.tup [.str u.1, .int (ys.length : Nat)]) ft)
            refine ⟨.ref tp, .non, upd G6 tp (.tup [.str u.1, .int (ys.length : Nat)]), upd (upd F6 hh (.lst vs)) tp (.tup [.str u.1, .int (ys.length : Nat)]), rfl, B7.late htp s8 hto, gN, by rw [upd_ne n1]; exact gD6, by rw [upd_ne n2]; exact gD16, by rw [upd_ne n3]; exact gh,
              by rw [upd_ne n1]; exact sF7 _ _ d6, by rw [upd_ne n2]; exact sF7 _ _ e6, by rw [upd_ne n3]; exact upd_same, tvs.same (same_new _ gT'), fun _ => .tup upd_same (.cons (.str _) (.cons (.int _) .nil)), (fun z => by rw [ew] at z; cases z)⟩
          · have ew : wr = false := by
              cases wr with
              | false => rfl
              | true =>
                have e3 := fb.symm.trans hfb
                rw [if_neg (by rw [kT rfl]; exact Bool.false_ne_true)] at e3
                cases e3
            obtain ⟨q1, q2⟩ := kF ew
            have st3 : StAt CS CT G8 x ts (gT (setR R u.1 (R u.1 ++ [zs]))) := by
              have e : (fun m => tupd (setG (gT R) u.1 (.list ((R u.1).map rowD ++ [PyData.list ds])) m)) = gT (setR R u.1 (R u.1 ++ [zs])) := set_tupd (by
                rw [tupd_parts rfl]
                show PyData.tuple (((R u.1).map rowD ++ [PyData.list ds]).map tupd) = _
                rw [List.map_append, rows_tupd, List.map_append]
                have z : tupd (PyData.list ds) = rowD zs := by
                  rw [tupd_parts rfl, q1]
                  show PyData.tuple ((zs.map PyData.int).map tupd) = PyData.tuple (zs.map PyData.int)
                  rw [List.map_map]
                  rfl
                show PyData.tuple ((R u.1).map rowD ++ [tupd (PyData.list ds)]) = _
                rw [z]
                rfl)
              rw [← e]
              exact st2
            obtain ⟨F8, gr8, B8⟩ := gr.under s77 B7
            have h8 : G8 hh = some (.lst vs) := gr.ff _ _ upd_same
            have sF8 := gr8.same s77
            have gO := gr8.out fh gh
            have n1 : D ≠ hh := ne_of_none d6 fh
            have n2 : D1 ≠ hh := ne_of_none e6 fh
            refine ⟨.non, .ref x, cut G8 hh, F8, rfl, B8, g6.trans gO, ?_, ?_, cut_at, sF8 _ _ (sF7 _ _ d6), sF8 _ _ (sF7 _ _ e6), sF8 _ _ upd_same, tvs.same gO.ff, (fun z => by rw [ew] at z; cases z), fun _ => ⟨rfl, x, rfl, st3.cut h8⟩⟩
            · rw [cut_ne n1]
              exact (gr8.hh D _ (by rw [upd_ne n1]; exact gD6) (sF7 _ _ d6)).1
            · rw [cut_ne n2]
              exact (gr8.hh D1 _ (by rw [upd_ne n2]; exact gD16) (sF7 _ _ e6)).1
        have nh1 : D1 ≠ hh := ne_of_none e6 fh
        have nh2 : D ≠ hh := ne_of_none d6 fh
        clear B7 sG7 sF7 s77 sG fh gh tvs d6 e6 gD6 gD16 g6 B6
        rintro σ' H8 ⟨v8, v9, G8, F8, rfl, B8, g8, gD8, gD18, gh8, d8, e8, h8, tvs, kT8, kF8⟩
        -- the row stays
        refine ⟨_, rfl, _, rfl, .ref hh, .ref D1, .list ds, rfl, .lst (B8.fh _ _ h8) (tvs.same (g8.fh.trans B8.fh)), .lst (B8.fh _ _ e8) (tvs.same (g8.fh.trans B8.fh)), (by show 1 + depL ds < 40; omega), (by show 1 + sizL ds ≤ 100000; omega), fun H9 s9 => ⟨_, rfl, iteF ?_⟩⟩
        have B9 := bag_same B8 s9
        clear B8
        -- what was handed is changed
        refine ⟨_, rfl, .inl ⟨rfl, _, .inl (.inl (B9.fh _ _ h8))⟩, hh, vs, rfl, rfl, B9.fh _ _ h8, ?_⟩
        have B10 := B9.put (.lst vs.reverse) h8
        have g10 := g8.side gh8 hF (o := .lst vs.reverse)
        have d10 : (upd F8 hh (.lst vs.reverse)) D = some (.dK kvs) := by rw [upd_ne nh2]; exact d8
        have e10 : (upd F8 hh (.lst vs.reverse)) D1 = some (.lst vs) := by rw [upd_ne nh1]; exact e8
        have h10 : (upd F8 hh (.lst vs.reverse)) hh = some (.lst vs.reverse) := upd_same
        generalize upd F8 hh (.lst vs.reverse) = F10 at *
        generalize upd H9 hh (.lst vs.reverse) = H10 at *
        clear B9 g8 d8 e8 h8
        have lvs : vs.length = t.2.length := by rw [tvs.len, lds]
        refine ⟨_, rfl, .inl ⟨rfl, _, .inl (.inl (B10.fh _ _ h10))⟩, hh, vs.reverse, _, rfl, rfl, B10.fh _ _ h10, (by rw [List.length_reverse]; exact Nat.lt_of_le_of_lt (show vs.length ≤ 100 by omega) (by decide)), ?_⟩
        have B11 := B10.put (.lst (vs.reverse ++ [.int 1])) h10
        have g11 := g10.side gh8 hF (o := .lst (vs.reverse ++ [.int 1]))
        have d11 : (upd F10 hh (.lst (vs.reverse ++ [.int 1]))) D = some (.dK kvs) := by rw [upd_ne nh2]; exact d10
        have e11 : (upd F10 hh (.lst (vs.reverse ++ [.int 1]))) D1 = some (.lst vs) := by rw [upd_ne nh1]; exact e10
        generalize upd F10 hh (.lst (vs.reverse ++ [.int 1])) = F11 at *
        generalize upd H10 hh (.lst (vs.reverse ++ [.int 1])) = H11 at *
        clear B10 g10 d10 e10 h10
        -- what was told
        refine ⟨fun σ' H' => σ' = [some (.ref b), some (.ref p), some (.ref st), some (.ref rd), some (.str t.1), some (.ref c), some (.ref pl), some (.ref D), some v8, some v9, none, some (.ref D1), some (.bl wr), some (.ref hh), none, none] ∧ Bag F11 H' b, ?_, ?_⟩
        · refine ⟨_, rfl, _, rfl, ?_⟩
          cases wr with
          | false => exact iteF (iteF ⟨rfl, B11⟩)
          | true =>
            refine iteT ⟨_, rfl, _, rfl, _, rfl, pl, ys, rfl, .inl (.inl (.inl (B11.fh _ _ (g11.fh _ _ (g11.ff _ _ hpl))))), (by show 2 ≤ sizeLine; decide), fun tq hq => ?_⟩
            have sq : Same H11 (upd H11 tq (.tup [.str t.1, .int (ys.length : Nat)])) := same_new _ hq
            refine ⟨v8, .ref tq, .tuple [.str t.1, .int (ys.length : Nat)], rfl, (kT8 rfl).same (g11.fh.trans (B11.fh.trans sq)), .tup upd_same (.cons (.str _) (.cons (.int _) .nil)), (by show 1 + max 0 (max 0 0) < 40; decide), (by show 1 + (1 + (1 + 0)) ≤ 100000; decide), fun H12 s12 => ⟨_, rfl, iteF ⟨rfl, bag_same (bag_same B11 sq) s12⟩⟩⟩
        clear B11
        rintro σ' H12 ⟨rfl, B12⟩
        -- the rows that are due
        refine ⟨_, rfl, _, rfl, D1, vs, rfl, .inl ⟨.inl (.inl (B12.fh _ _ e11)), fun l hl => ⟨(by show 1 ≤ sizeLine; decide), fun m hm => ?_⟩⟩⟩
        have fl := B12.fh.free hl
        have g13 := g11.trans (Grow.new g11.fh (.tup vs) fl)
        have B13 := B12.new (.tup vs) hl
        have gl : (upd G8 l (.tup vs)) l = some (.tup vs) := upd_same
        have d13 : (upd F11 l (.tup vs)) D = some (.dK kvs) := by rw [upd_ne (ne_of_none d11 fl)]; exact d11
        have gD13 : (upd G8 l (.tup vs)) D = none := by rw [upd_ne (ne_of_none d11 fl)]; exact gD8
        have s13 : Same G8 (upd G8 l (.tup vs)) := same_new _ (g11.fh.free fl)
        generalize upd H12 l (.tup vs) = H13 at *
        generalize upd F11 l (.tup vs) = F13 at *
        generalize upd G8 l (.tup vs) = G13 at *
        have sm := same_new (.lst [.ref l]) hm
        have hpl2 : (upd H13 m (.lst [.ref l])) pl = some (.lst ys) := sm _ _ (B13.fh _ _ (g13.fh _ _ (g13.ff _ _ hpl)))
        have B14 := bag_junk B13 (.lst [.ref l]) hm
        have hm2 : (upd H13 m (.lst [.ref l])) m = some (.lst [.ref l]) := upd_same
        generalize upd H13 m (.lst [.ref l]) = H14 at *
        clear B13 B12 sm hm fl hl
        refine ⟨pl, m, ys, _, rfl, rfl, hpl2, hm2, Nat.le_of_lt (Nat.lt_of_le_of_lt (show ys.length + 1 ≤ 100 by omega) (by decide)), fun q hq => ?_⟩
        have fq := B14.fh.free hq
        have g15 := g13.trans (Grow.new g13.fh (.lst (ys ++ [.ref l])) fq)
        have B15 := B14.new (.lst (ys ++ [.ref l])) hq
        have d15 : (upd F13 q (.lst (ys ++ [.ref l]))) D = some (.dK kvs) := by rw [upd_ne (ne_of_none d13 fq)]; exact d13
        have q15 : (upd G13 q (.lst (ys ++ [.ref l]))) q = some (.lst (ys ++ [.ref l])) := upd_same
        have s15 : Same G13 (upd G13 q (.lst (ys ++ [.ref l]))) := same_new _ (g13.fh.free fq)
        have gD15 : (upd G13 q (.lst (ys ++ [.ref l]))) D = none := by rw [upd_ne (ne_of_none d13 fq)]; exact gD13
        generalize upd H14 q (.lst (ys ++ [.ref l])) = H15 at *
        generalize upd F13 q (.lst (ys ++ [.ref l])) = F15 at *
        generalize upd G13 q (.lst (ys ++ [.ref l])) = G15 at *
        have lk : kvs.length ≤ 100 := by
          have z := congrArg List.length ek
          rw [List.length_map, List.length_map] at z
          omega
        refine ⟨_, rfl, _, rfl, D, _, rfl, .inl ⟨kvs, Sum.inr t.1, B15.fh _ _ d15, rfl, Nat.lt_of_le_of_lt lk (by decide), rfl⟩, ?_⟩
        have B16 := B15.put (.dK (putK kvs (Sum.inr t.1) (.ref q))) d15
        have g16 := g15.take fD gD (.dK (putK kvs (Sum.inr t.1) (.ref q)))
        have s16 : Same G15 (upd G15 D (.dK (putK kvs (Sum.inr t.1) (.ref q)))) := same_new _ gD15
        refine ⟨v8, v9, none, some (.ref D1), some (.ref hh), none, none, wr, _, _, rfl, B16, g16, fun ew => ?_⟩
        obtain ⟨q1, x, q2, q3⟩ := kF8 ew
        obtain ⟨w1, w2⟩ := kF ew
        have sA := s13.trans (s15.trans s16)
        refine ⟨q1, x, setR R t.1 (R t.1 ++ [zs]), q2, q3.same sA, RsAt.put (v := .ref q) mt upd_same ek (fun u mu => ?_) (.lst (s16 _ _ q15) ?_), rok_set ok mt rok (by omega) (by rw [List.length_append]; show (R t.1).length + 1 ≤ N + 1; omega) fun r mr => ?_⟩
        · obtain ⟨y, y1, y2⟩ := val u mu
          exact ⟨y, y1, y2.same g16.ff⟩
        · rw [List.map_append]
          refine (tys.same g16.ff).app (.cons ?_ .nil)
          have z : TpAll G8 vs (zs.map PyData.int) := by rw [← w1]; exact tvs
          exact .tup ((s15.trans s16) _ _ gl) (z.same sA)
        · rcases List.mem_append.mp mr with mr | mr
          · exact rg r mr
          · rw [List.mem_singleton.mp mr]
            exact w2
      · -- one row less
        refine ⟨_, rfl, _, rfl, pl, ys, rfl, .inl (.inl (.inl (B3.fh _ _ (s2 _ _ hpl)))), _, _, rfl, rfl, F2, b, _, rfl, by omega, by omega, B3, fun r4 H4 r40 r41 B4 => ⟨_, _, rfl, rfl, ?_⟩⟩
        clear B3 B2
        refine ⟨fun σ' H' => ∃ wr, σ' = [some (.ref b), some (.ref p), some (.ref st), some (.ref rd), some (.str t.1), some (.ref c), some (.ref pl), some (.ref D), some .non, some .non, none, none, some (.bl wr), none, none, some (.int (r4 - 1))] ∧ (wr = false → 0 ≤ r4 - 1 ∧ r4 - 1 < ys.length) ∧ (wr = true → ¬ (0 ≤ r4 - 1 ∧ r4 - 1 < ys.length)) ∧ Bag F2 H' b, ?_, ?_⟩
        · refine ⟨_, rfl, _, _, rfl, rfl, _, rfl, ifd (fun h0 => ?_) fun h0 => ?_⟩
          · exact ⟨true, rfl, (fun z => nomatch z), (fun _ => by omega), B4⟩
          · refine ⟨_, rfl, _, rfl, pl, ys, rfl, .inl (.inl (.inl (B4.fh _ _ (s2 _ _ hpl)))), _, _, rfl, rfl, ?_⟩
            refine ⟨decide ((ys.length : Int) ≤ r4 - 1), rfl, fun z => ?_, fun z => ?_, B4⟩
            · have y := of_decide_eq_false z
              omega
            · have y := of_decide_eq_true z
              omega
        clear B4
        rintro σ' H5 ⟨wr, rfl, kF, kT, B5⟩
        have ab : -1 ≤ r4 - 1 ∧ r4 - 1 ≤ ys.length := by omega
        generalize r4 - 1 = a at *
        have sH5 : Same G H5 := s2.trans B5.fh
        refine ⟨fun σ' H' => ∃ v8 v9 G' F', σ' = [some (.ref b), some (.ref p), some (.ref st), some (.ref rd), some (.str t.1), some (.ref c), some (.ref pl), some (.ref D), some v8, some v9, none, none, some (.bl wr), none, none, some (.int a)] ∧ Bag F' H' b ∧ Grow G F G' F' ∧ G' D = none ∧ F' D = some (.dK kvs) ∧
          (wr = true → v8 = .int a) ∧ (wr = false → v8 = .non ∧ ∃ x, v9 = .ref x ∧ StAt CS CT G' x ts (gT (setR R t.1 ((R t.1).take a.toNat ++ (R t.1).drop (a.toNat + 1))))), ?_, ?_⟩
        · refine ⟨_, rfl, st, dx, _, rfl, sH5 _ _ hst, rfl, _, rfl, _, rfl, G, st, .str t.1, .int a, .str t.1, .int a, ts, gT R, rfl, sH5, .str _, (by show 1 ≤ 100000; decide), .int a, stA, ok, rok_sm ok rok (by omega), fun u mu ed => ?_, fun no => absurd rfl (no t mt)⟩
          have eu := tab_eq ok.nd mt mu (PyData.str.inj ed).symm
          subst eu
          have lr : (partsD (gT R u.1)).length = (R u.1).length := List.length_map ..
          refine ⟨fun i2 ei hi2 => ?_, fun no H6 s6 dd hdd => ?_⟩
          · have ei := PyData.int.inj ei
            have ew : wr = false := by
              cases wr with
              | false => rfl
              | true => exact absurd ⟨by omega, by omega⟩ (kT rfl)
            have ej : a.toNat = i2 := by omega
            have es : ((R u.1).map rowD).take i2 ++ ((R u.1).map rowD).drop (i2 + 1) = ((R u.1).take i2 ++ (R u.1).drop (i2 + 1)).map rowD := by rw [List.map_append, List.map_take, List.map_drop]
            have gs : ∀ r ∈ (R u.1).take i2 ++ (R u.1).drop (i2 + 1), goodR u.2.length r := fun r mr => by
              rcases List.mem_append.mp mr with mr | mr
              · exact rg r (List.mem_of_mem_take mr)
              · exact rg r (List.mem_of_mem_drop mr)
            have ls : ((R u.1).take i2 ++ (R u.1).drop (i2 + 1)).length ≤ (R u.1).length := by
              rw [List.length_append, List.length_take, List.length_drop]
              omega
            show Other _ _ _ _ _ _ (setG (gT R) u.1 (.list (((R u.1).map rowD).take i2 ++ ((R u.1).map rowD).drop (i2 + 1)))) _ _
            rw [es]
            refine ⟨fun t2 j2 e2 => ?_, fun hfb => ⟨total_set ok rok (by omega) (by show (((R u.1).take i2 ++ (R u.1).drop (i2 + 1)).map rowD).length ≤ 60; rw [List.length_map]; omega), fun x G8 H8 gr st2 => ?_⟩⟩
            · rw [bad_set ok mt rok] at e2
              have z : firstD u.2.length (.list (((R u.1).take i2 ++ (R u.1).drop (i2 + 1)).map rowD)) = none := by
                show (firstWrong u.2.length (((R u.1).take i2 ++ (R u.1).drop (i2 + 1)).map rowD)).map Int.ofNat = none
                rw [firstD_rows gs]
                rfl
              rw [z] at e2
              cases e2
            · obtain ⟨F8, gr8, B8⟩ := gr.under s2 B5
              have e : (fun m => tupd (setG (gT R) u.1 (.list (((R u.1).take i2 ++ (R u.1).drop (i2 + 1)).map rowD)) m)) = gT (setR R u.1 ((R u.1).take i2 ++ (R u.1).drop (i2 + 1))) := set_tupd (list_tupd _)
              rw [e] at st2
              rw [ej]
              obtain ⟨z1, z2⟩ := gr8.hh D _ gD d2
              exact ⟨.non, .ref x, G8, F8, rfl, B8, g2.trans gr8, z1, z2, (fun z => by rw [ew] at z; cases z), fun _ => ⟨rfl, x, rfl, st2⟩⟩
          · have ew : wr = true := by
              cases wr with
              | true => rfl
              | false =>
                obtain ⟨q1, q2⟩ := kF rfl
                exact absurd (show a.toNat < (partsD (gT R u.1)).length by omega) (no a.toNat (congrArg PyData.int (by omega)))
            refine ⟨true, R0.ii, fun _ a1 na => ⟨_, rfl, rfl, CI, dd, _, _, rfl, R0.xI, R0.fI, rfl, upd_same, rfl, ?_⟩, fun q => nomatch q⟩
            exact ⟨.int a, .non, G, F2, rfl, bag_same B5 (s6.trans (same_new _ hdd)), g2, gD, d2, fun _ => rfl, (fun z => by rw [ew] at z; cases z)⟩
        clear B5 g2 d2 s2 sH5
        rintro σ' H6 ⟨v8, v9, G6, F6, rfl, B6, g6, gD6, d6, kT6, kF6⟩
        refine ⟨fun σ' H' => σ' = [some (.ref b), some (.ref p), some (.ref st), some (.ref rd), some (.str t.1), some (.ref c), some (.ref pl), some (.ref D), some v8, some v9, none, none, some (.bl wr), none, none, some (.int a)] ∧ Bag F6 H' b, ?_, ?_⟩
        · refine ⟨_, rfl, _, rfl, ?_⟩
          cases wr with
          | false => exact iteF (iteF ⟨rfl, B6⟩)
          | true =>
            rw [kT6 rfl]
            exact iteT ⟨_, rfl, _, rfl, .int a, .int a, .int a, rfl, .int a, .int a, (by show 0 < 40; decide), (by show 1 ≤ 100000; decide), fun H7 s7 => ⟨_, rfl, iteF ⟨rfl, bag_same B6 s7⟩⟩⟩
        clear B6
        rintro σ' H7 ⟨rfl, B7⟩
        have hpl7 : H7 pl = some (.lst ys) := B7.fh _ _ (g6.fh _ _ (g6.ff _ _ hpl))
        refine ⟨_, rfl, _, rfl, _, _, rfl, _, rfl, pl, ys, rfl, .inl (.inl hpl7), ?_⟩
        have e1 : cutV ys none (some (if a > 0 then a else 0)) = ys.take a.toNat := by
          rw [show (if a > (0 : Int) then a else 0) = ((a.toNat : Nat) : Int) by split <;> omega]
          exact cutV_to ys a.toNat
        rw [e1]
        intro p0 h0
        have s0 := same_new (.lst (ys.take a.toNat)) h0
        have B8 := bag_junk B7 (.lst (ys.take a.toNat)) h0
        have a0 : (upd H7 p0 (.lst (ys.take a.toNat))) p0 = some (.lst (ys.take a.toNat)) := upd_same
        have hpl8 := s0 _ _ hpl7
        generalize upd H7 p0 (.lst (ys.take a.toNat)) = H8 at *
        clear B7 s0 h0
        refine ⟨_, rfl, _, rfl, _, _, rfl, rfl, _, rfl, pl, ys, rfl, .inl (.inl hpl8), ?_⟩
        have e2 : cutV ys (some (a + 1)) none = ys.drop (a + 1).toNat := by
          rw [show a + 1 = (((a + 1).toNat : Nat) : Int) by omega, Int.toNat_natCast]
          by_cases z : (a + 1).toNat ≤ ys.length
          · exact cutV_from ys _ z
          · unfold cutV
            rw [HT.sIx_none, HT.sIx_nat, Nat.min_eq_right (by omega), List.drop_eq_nil_of_le (Nat.le_refl _), List.drop_eq_nil_of_le (by omega), List.take_nil]
        rw [e2]
        intro p2 h2
        have s2 := same_new (.lst (ys.drop (a + 1).toNat)) h2
        have B9 := bag_junk B8 (.lst (ys.drop (a + 1).toNat)) h2
        have a2 : (upd H8 p2 (.lst (ys.drop (a + 1).toNat))) p2 = some (.lst (ys.drop (a + 1).toNat)) := upd_same
        have a0' := s2 _ _ a0
        generalize upd H8 p2 (.lst (ys.drop (a + 1).toNat)) = H9 at *
        clear B8 s2 h2
        refine ⟨p0, p2, _, _, rfl, rfl, a0', a2, Nat.le_of_lt (Nat.lt_of_le_of_lt (show (ys.take a.toNat).length + (ys.drop (a + 1).toNat).length ≤ 200 by rw [List.length_take, List.length_drop]; omega) (by decide)), fun q hq => ?_⟩
        have fq := B9.fh.free hq
        have g15 := g6.trans (Grow.new g6.fh (.lst (ys.take a.toNat ++ ys.drop (a + 1).toNat)) fq)
        have B15 := B9.new (.lst (ys.take a.toNat ++ ys.drop (a + 1).toNat)) hq
        have d15 : (upd F6 q (.lst (ys.take a.toNat ++ ys.drop (a + 1).toNat))) D = some (.dK kvs) := by rw [upd_ne (ne_of_none d6 fq)]; exact d6
        have q15 : (upd G6 q (.lst (ys.take a.toNat ++ ys.drop (a + 1).toNat))) q = some (.lst (ys.take a.toNat ++ ys.drop (a + 1).toNat)) := upd_same
        have s15 : Same G6 (upd G6 q (.lst (ys.take a.toNat ++ ys.drop (a + 1).toNat))) := same_new _ (g6.fh.free fq)
        have gD15 : (upd G6 q (.lst (ys.take a.toNat ++ ys.drop (a + 1).toNat))) D = none := by rw [upd_ne (ne_of_none d6 fq)]; exact gD6
        generalize upd H9 q (.lst (ys.take a.toNat ++ ys.drop (a + 1).toNat)) = H15 at *
        generalize upd F6 q (.lst (ys.take a.toNat ++ ys.drop (a + 1).toNat)) = F15 at *
        generalize upd G6 q (.lst (ys.take a.toNat ++ ys.drop (a + 1).toNat)) = G15 at *
        have lk : kvs.length ≤ 100 := by
          have z := congrArg List.length ek
          rw [List.length_map, List.length_map] at z
          omega
        refine ⟨_, rfl, _, rfl, D, _, rfl, .inl ⟨kvs, Sum.inr t.1, B15.fh _ _ d15, rfl, Nat.lt_of_le_of_lt lk (by decide), rfl⟩, ?_⟩
        have B16 := B15.put (.dK (putK kvs (Sum.inr t.1) (.ref q))) d15
        have g16 := g15.take fD gD (.dK (putK kvs (Sum.inr t.1) (.ref q)))
        have s16 : Same G15 (upd G15 D (.dK (putK kvs (Sum.inr t.1) (.ref q)))) := same_new _ gD15
        refine ⟨v8, v9, none, none, none, none, some (.int a), wr, _, _, rfl, B16, g16, fun ew => ?_⟩
        obtain ⟨q1, x, q2, q3⟩ := kF6 ew
        obtain ⟨w1, w2⟩ := kF ew
        rw [show (a + 1).toNat = a.toNat + 1 by omega] at q15
        refine ⟨q1, x, _, q2, q3.same (s15.trans s16), RsAt.put (v := .ref q) mt upd_same ek (fun u mu => ?_) (.lst (s16 _ _ q15) ?_), rok_set ok mt rok (by omega) ?_ fun r mr => ?_⟩
        · obtain ⟨y, y1, y2⟩ := val u mu
          exact ⟨y, y1, y2.same g16.ff⟩
        · rw [List.map_append, List.map_take, List.map_drop]
          exact ((tys.take _).app (tys.drop _)).same g16.ff
        · rw [List.length_append, List.length_take, List.length_drop]
          omega
        · rcases List.mem_append.mp mr with mr | mr
          · exact rg r (List.mem_of_mem_take mr)
          · exact rg r (List.mem_of_mem_drop mr)
    · rintro σ' H3 ⟨v8, v9, v10, v11, v13, v14, v15, wr, G3, F3, rfl, B3, g3, kW⟩
      cases wr with
      | true =>
        refine ⟨_, rfl, _, rfl, iteT ⟨_, rfl, _, rfl, (by show 2 ≤ sizeLine; decide), fun x hx => ?_⟩⟩
        have fx := B3.fh.free hx
        have g4 := g3.trans (Grow.new g3.fh (.tup [.ref st, .ref rd]) fx)
        exact kQ x _ _ _ st rd R g4 (B3.new _ hx) upd_same (stA.same g4.ff) (rsA.same g4.ff) (rok.up (by omega))
      | false =>
        obtain ⟨rfl, x0, R', rfl, q1, q2, q3⟩ := kW rfl
        refine ⟨_, rfl, _, rfl, iteF ⟨_, rfl, rfl, _, rfl, iteF ⟨_, rfl, _, rfl, (by show 2 ≤ sizeLine; decide), fun x hx => ?_⟩⟩⟩
        have fx := B3.fh.free hx
        have gn := Grow.new g3.fh (.tup [.ref x0, .ref D]) fx
        exact kQ x _ _ _ x0 D R' (g3.trans gn) (B3.new _ hx) upd_same (q1.same gn.ff) (q2.same gn.ff) q3
end
end Fm

/-! ## K06L -/
set_option Elab.async false
set_option maxRecDepth 100000
set_option maxHeartbeats 4000000
namespace Fm
open PySem L2
theorem isNm_8 {s : Str} (h : isNm s = true) : s.length ≤ 9 := by
  unfold isNm at h
  simp only [Bool.and_eq_true, decide_eq_true_eq] at h
  omega
theorem strs_bd : ∀ {fs : List Str}, (∀ f ∈ fs, isNm f = true) → depL (fs.map PyData.str) = 0 ∧ sizL (fs.map PyData.str) = fs.length ∧ mstL (fs.map PyData.str) ≤ 9
  | [], _ => ⟨rfl, rfl, Nat.zero_le _⟩
  | f :: fs, h => by
    obtain ⟨h1, h2, h3⟩ := strs_bd fun g m => h g (List.mem_cons_of_mem _ m)
    have z := isNm_8 (h f List.mem_cons_self)
    refine ⟨?_, ?_, ?_⟩
    · show max 0 (depL (fs.map PyData.str)) = 0
      omega
    · show 1 + sizL (fs.map PyData.str) = fs.length + 1
      omega
    · show max f.length (mstL (fs.map PyData.str)) ≤ 9
      omega
theorem tab_bd {t : Tab} (h : TOk t) : dep (tabD false t) ≤ 2 ∧ siz (tabD false t) ≤ 7 ∧ mst (tabD false t) ≤ 9 := by
  obtain ⟨h1, h2, h3⟩ := strs_bd h.fs.nm
  have z := isNm_8 h.nm
  have l := h.fs.hi
  refine ⟨?_, ?_, ?_⟩
  · show 1 + max 0 (max (1 + depL (t.2.map PyData.str)) 0) ≤ 2
    omega
  · show 1 + (1 + ((1 + sizL (t.2.map PyData.str)) + 0)) ≤ 7
    omega
  · show max t.1.length (max (mstL (t.2.map PyData.str)) 0) ≤ 9
    omega
theorem tabs_bd : ∀ {ts : List Tab}, (∀ t ∈ ts, TOk t) → depL (ts.map (tabD false)) ≤ 2 ∧ sizL (ts.map (tabD false)) ≤ 7 * ts.length ∧ mstL (ts.map (tabD false)) ≤ 9
  | [], _ => ⟨Nat.zero_le _, Nat.zero_le _, Nat.zero_le _⟩
  | t :: ts, h => by
    obtain ⟨h1, h2, h3⟩ := tabs_bd fun u m => h u (List.mem_cons_of_mem _ m)
    obtain ⟨g1, g2, g3⟩ := tab_bd (h t List.mem_cons_self)
    refine ⟨?_, ?_, ?_⟩
    · show max (dep (tabD false t)) (depL (ts.map (tabD false))) ≤ 2
      omega
    · show siz (tabD false t) + sizL (ts.map (tabD false)) ≤ 7 * (ts.length + 1)
      omega
    · show max (mst (tabD false t)) (mstL (ts.map (tabD false))) ≤ 9
      omega
theorem ts_bd {ts : List Tab} (ok : TsOk ts) : dep (.list (ts.map (tabD false))) ≤ 3 ∧ siz (.list (ts.map (tabD false))) ≤ 36 ∧ mst (.list (ts.map (tabD false))) ≤ 9 := by
  obtain ⟨h1, h2, h3⟩ := tabs_bd ok.ok
  have l := ok.hi
  refine ⟨?_, ?_, h3⟩
  · show 1 + depL (ts.map (tabD false)) ≤ 3
    omega
  · show 1 + sizL (ts.map (tabD false)) ≤ 36
    omega
theorem strsD_map : ∀ fs : List Str, strsD (fs.map PyData.str) = fs
  | [] => rfl
  | f :: fs => by
    show f :: strsD (fs.map PyData.str) = f :: fs
    rw [strsD_map fs]
theorem tab_ok {t : Tab} (h : TOk t) : tableD (tabD false t) = true := by
  show (isNm t.1 && nmsD 1 4 (.tuple (t.2.map PyData.str))) = true
  rw [h.nm]
  have l1 := h.fs.lo
  have l2 := h.fs.hi
  have e : (partsD (PyData.tuple (t.2.map PyData.str))) = t.2.map PyData.str := rfl
  unfold nmsD rowD3
  rw [e, List.length_map, strsD_map, decide_eq_true (p := (1 : Int) ≤ ((t.2.length : Nat) : Int)) (by omega), decide_eq_true (p := ((t.2.length : Nat) : Int) ≤ 4) (by omega), decide_eq_true h.fs.nd]
  have z : (t.2.map PyData.str).all isNmD = true := by
    rw [List.all_map, List.all_eq_true]
    exact fun f m => h.fs.nm f m
  rw [z]
  rfl
theorem first_tabs : ∀ {ts : List Tab} {names : List Str}, (∀ t ∈ ts, TOk t) → (names ++ ts.map (·.1)).Nodup → firstBadT names (ts.map (tabD false)) = none
  | [], _, _, _ => rfl
  | t :: ts, names, h, nd => by
    have no : t.1 ∉ names := fun m => by
      rw [List.nodup_append] at nd
      exact nd.2.2 t.1 m t.1 List.mem_cons_self rfl
    rw [List.map_cons, first_ok (tab_ok (h t List.mem_cons_self)) no]
    have z := first_tabs (names := names ++ [nameT (tabD false t)]) (fun u m => h u (List.mem_cons_of_mem _ m)) (by
      show ((names ++ [t.1]) ++ ts.map (·.1)).Nodup
      rw [List.append_assoc]
      exact nd)
    rw [z]
    rfl
theorem shape_ok {ts : List Tab} (ok : TsOk ts) : shapeBad (.list (ts.map (tabD false))) = none := by
  have l1 := ok.lo
  have l2 := ok.hi
  have r : rowD3 1 5 (.list (ts.map (tabD false))) = true := by
    unfold rowD3
    rw [show (partsD (PyData.list (ts.map (tabD false)))) = ts.map (tabD false) from rfl, List.length_map, decide_eq_true (p := (1 : Int) ≤ ((ts.length : Nat) : Int)) (by omega), decide_eq_true (p := ((ts.length : Nat) : Int) ≤ 5) (by omega)]
    rfl
  unfold shapeBad
  rw [if_pos r, show (partsD (PyData.list (ts.map (tabD false)))) = ts.map (tabD false) from rfl, first_tabs ok.ok (by rw [List.nil_append]; exact ok.nd)]
  rfl
theorem strs_tupd : ∀ fs : List Str, (fs.map PyData.str).map tupd = fs.map PyData.str
  | [] => rfl
  | f :: fs => by
    show PyData.str f :: (fs.map PyData.str).map tupd = _
    rw [strs_tupd fs]
    rfl
theorem tab_tupd (t : Tab) : tupd (tabD false t) = tabD false t := by
  rw [tupd_parts rfl]
  show PyData.tuple [.str t.1, tupd (.tuple (t.2.map PyData.str))] = _
  rw [tupd_parts rfl]
  show PyData.tuple [.str t.1, .tuple ((t.2.map PyData.str).map tupd)] = _
  rw [strs_tupd]
  rfl
theorem tabs_tupd {ts : List Tab} : tupd (.list (ts.map (tabD false))) = tsD ts := by
  rw [tupd_parts rfl]
  show PyData.tuple ((ts.map (tabD false)).map tupd) = .tuple (ts.map (tabD false))
  rw [List.map_map]
  exact congrArg PyData.tuple (List.map_congr_left fun t _ => tab_tupd t)
theorem grow_with {F H F' H' : Hp} {rd : Addr} {o : HO} (g : Grow F H F' H') (f : F rd = none) (h : H rd = some o) : Grow (upd F rd o) H (upd F' rd o) H' := by
  obtain ⟨z1, z2⟩ := g.hh rd o f h
  refine ⟨same_upd g.ff rd o, fun a u e => ?_, fun a u e1 e2 => ?_⟩
  · by_cases q : a = rd
    · rw [q, upd_same] at e
      rw [q, z2]
      exact e
    · rw [upd_ne q] at e
      exact g.fh _ _ e
  · have n : a ≠ rd := fun q => by
      rw [q, upd_same] at e1
      cases e1
    rw [upd_ne n] at e1 ⊢
    exact g.hh a u e1 e2
/-! ### the rows that are drawn -/
theorem pick_r {P : Tab → List (List Int) → Prop} : ∀ {ts : List Tab}, (ts.map (·.1)).Nodup → (∀ t ∈ ts, ∃ d, P t d) → ∃ g : Str → List (List Int), ∀ t ∈ ts, P t (g t.1)
  | [], _, _ => ⟨fun _ => [], fun _ m => by cases m⟩
  | t :: ts, nd, h => by
    rw [List.map_cons, List.nodup_cons] at nd
    obtain ⟨d, hd⟩ := h t List.mem_cons_self
    obtain ⟨g, hg⟩ := pick_r nd.2 fun u m => h u (List.mem_cons_of_mem _ m)
    refine ⟨fun n => if n = t.1 then d else g n, fun u m => ?_⟩
    rcases List.mem_cons.mp m with rfl | m
    · show P _ (if _ then _ else _)
      rw [if_pos rfl]
      exact hd
    · have ne : u.1 ≠ t.1 := fun e => nd.1 (by rw [← e]; exact List.mem_map.mpr ⟨u, m, rfl⟩)
      show P u (if u.1 = t.1 then d else g u.1)
      rw [if_neg ne]
      exact hg u m
theorem rows_ints {w : Nat} : ∀ {R : List PyData}, (∀ r ∈ R, RowOk w r) → ∃ rs : List (List Int), R = rs.map rowD ∧ rs.length = R.length ∧ ∀ r ∈ rs, goodR w r
  | [], _ => ⟨[], rfl, rfl, fun _ m => by cases m⟩
  | r :: R, h => by
    obtain ⟨zs, e, l, v⟩ := h r List.mem_cons_self
    obtain ⟨rs, e2, l2, g⟩ := rows_ints fun s m => h s (List.mem_cons_of_mem _ m)
    refine ⟨zs :: rs, by rw [e, e2]; rfl, by rw [List.length_cons, l2]; rfl, fun s m => ?_⟩
    rcases List.mem_cons.mp m with rfl | m
    · exact ⟨l, v⟩
    · exact g s m
theorem rok_bad {ts : List Tab} {R : Str → List (List Int)} {N : Nat} (h : Rok ts R N) : firstBad (gL R) ts = none := by
  unfold firstBad
  rw [List.findSome?_eq_none_iff]
  intro t m
  have z : firstD t.2.length (gL R t.1) = none := by
    show (firstWrong t.2.length ((R t.1).map rowD)).map Int.ofNat = none
    rw [firstD_rows (h t m).2]
    rfl
  rw [z]
  rfl
theorem rok_total {ts : List Tab} {R : Str → List (List Int)} {N : Nat} (ok : TsOk ts) (h : Rok ts R N) (hN : N ≤ 60) : total (gL R) ts ≤ 300 := by
  have z := total_le (h := gL R) (ts := ts) (N := 60) fun u mu => by
    show ((R u.1).map rowD).length ≤ 60
    rw [List.length_map]
    have y := (h u mu).1
    omega
  have y := ok.hi
  omega
theorem gL_tupd (R : Str → List (List Int)) : (fun n => tupd (gL R n)) = gT R := funext fun n => list_tupd (R n)
end Fm

/-! ## K06O -/
set_option Elab.async false
set_option maxRecDepth 100000
set_option maxHeartbeats 16000000
namespace Fm
open PySem L2
/-- a store with its rows, as the law keeps them -/
def Kept (CS CT : Addr) (G : Hp) (ts : List Tab) (N : Nat) (x : V) : Prop := ∃ t' st rd R, x = .ref t' ∧ G t' = some (.tup [.ref st, .ref rd]) ∧ StAt CS CT G st ts (gT R) ∧ RsAt G rd ts (gL R) ∧ Rok ts R N
theorem Kept.same {CS CT : Addr} {G G' : Hp} {ts : List Tab} {N M : Nat} {x : V} (h : Kept CS CT G ts N x) (s : Same G G') (l : N ≤ M) : Kept CS CT G' ts M x := by
  obtain ⟨t', st, rd, R, h1, h2, h3, h4, h5⟩ := h
  exact ⟨t', st, rd, R, h1, s _ _ h2, h3.same s, h4.same s, h5.up l⟩
section
variable {P : Program} {w : World} {K : PySem.W.Frag} {mg : Str → Option Value} {base : Heap} {CS CT CB CR CN CI : Addr}
def spLaw (K : PySem.W.Frag) : Sp := fun vs H Q _ => ∃ (a : Addr) (ns : List Int), vs = [.ref a] ∧ SqL K H a (ns.map V.int) ∧ ns.length ≤ 63 ∧ ∀ H', Q (.bl true) H'
abbrev s_law : Stmt := topS 39
abbrev sc_lawN : List Str := ["_law_script", "_law_bag_here", "_law_tables_here", "_law_rows_here", "_law_shape", "_law_stores", "_law_k", "_law_at", "_law_behind", "_law_store", "_law_due"]
abbrev ps_law : List Str := ["_law_script"]
theorem sc_law : FnScope sc_lawN ps_law (defScope s_law) := ⟨rfl, rfl, rfl, by decide +kernel, rfl, by decide +kernel, by decide +kernel⟩
theorem ok_law {f : Addr} {fd : FuncData} (F : Fun K "law" "law" s_law f fd) (T : Txt K mg CS) (T2 : Tx2 K mg CT) (T3 : Tx3 K CT) (D_l_bag : Df P w K mg base "_law_bag" 1 ps_l_bag (spBag K)) (D_l_pick : Df P w K mg base "_law_pick" 1 ps_l_pick spPick) (D_l_tables : Df P w K mg base "_law_tables" 3 ps_l_tables spTables) (D_l_rows : Df P w K mg base "_law_rows" 3 ps_l_rows spRows)
    (D_Shape : DcX P w K mg base "Shape" CS 41 ps_Shape_init (spShInit CS CB)) (D_Store : DcX P w K mg base "Store" CT 41 ps_Store_init (spStInit CS CT CR)) (D_l_deed : Df P w K mg base "_law_deed" 45 ps_l_deed (spDeed CS CT)) (D_l_tells : Df P w K mg base "_law_tells" 41 ps_l_tells (spTells CS CT))
    (E_Shape : Deq P w K mg base CS 1 ps_Shape_eq (spShSame CS)) (E_Store : Deq P w K mg base CT 2 ps_Store_eq (spStSame CS CT)) : FnOk P w K mg base CX0 46 f fd ps_law (spLaw K) := by
  refine F.ok sc_law (fun vs H Q E h => ?_) (fun cdv A outer s H vs Q E hr h => ?_)
  · obtain ⟨_, _, rfl, _⟩ := h
    rfl
  · obtain ⟨a, ns, rfl, hs, len, k⟩ := h
    refine ⟨_, (pss_cons (ps_set (i := 1) sc_law.nd rfl (Or.inl rfl) (pe_d D_l_bag (hr.mono (by decide)) (pa_cons (pv 0) pa_nil)))
  (pss_cons (ps_set (i := 2) sc_law.nd rfl (Or.inl rfl) (pe_d D_l_tables (hr.mono (by decide)) (pa_cons (pv 1) pa_nil)))
  (pss_cons (ps_set (i := 3) sc_law.nd rfl (Or.inl rfl) (pe_d D_l_rows (hr.mono (by decide)) (pa_cons (pv 1) (pa_cons (pv 2) pa_nil))))
  (pss_cons (ps_set (i := 4) sc_law.nd rfl (Or.inl rfl) (pe_dcE (W := fun _ _ _ _ => False) D_Shape (hr.mono (by decide)) takes0 (pa_cons (pv 2) pa_nil)))
  (pss_cons (ps_set (i := 5) sc_law.nd rfl (Or.inl rfl) (pe_lst (pa_cons (pe_tup (pa_cons (pe_dcE (W := fun _ _ _ _ => False) D_Store (hr.mono (by decide)) takes0 (pa_cons (pv 4) (pa_cons (pv 3) pa_nil))) (pa_cons (pv 3) pa_nil))) pa_nil)))
  (pss_cons (ps_for PassesOwn.never rfl (pi_range1 (by rfl) T.n_range (pa_cons (pe_ix ix_list (pe_lst (pa_cons pe_int (pa_cons pe_int (pa_cons pe_int (pa_cons pe_int pa_nil))))) (pe_d D_l_pick (hr.mono (by decide)) (pa_cons (pv 1) (pa_cons pe_int pa_nil))) (fun _ _ => rfl)) pa_nil)) (pg_name (i := 6) sc_law.nd rfl (Or.inl rfl))
    (pss_cons (ps_set (i := 7) sc_law.nd rfl (Or.inl rfl) (pe_op op_sub (pe_callB call_len_seq (by rfl) T.n_len (by decide +kernel) (pa_cons (pv 5) pa_nil)) pe_int))
    (Evl.pss_cut (ps_if (pt_cmpR op_eq (pe_d D_l_pick (hr.mono (by decide)) (pa_cons (pv 1) (pa_cons pe_int pa_nil))) pe_int (nomark _))
      (pss_one (ps_set (i := 7) sc_law.nd rfl (Or.inl rfl) (pe_d D_l_pick (hr.mono (by decide)) (pa_cons (pv 1) (pa_cons (pe_callB call_len_seq (by rfl) T.n_len (by decide +kernel) (pa_cons (pv 5) pa_nil)) pa_nil)))))
      pss_nil)
    (pss_cons (ps_set (i := 8) sc_law.nd rfl (Or.inl rfl) (pe_d D_l_deed (hr.mono (by decide)) (pa_cons (pv 1) (pa_cons (pv 2) (pa_cons (pe_ix ix_tup (pe_ix ix_list (pv 5) (pv 7) (fun _ _ => rfl)) pe_int (fun _ _ => rfl)) (pa_cons (pe_ix ix_tup (pe_ix ix_list (pv 5) (pv 7) (fun _ _ => rfl)) pe_int (fun _ _ => rfl)) pa_nil))))))
    (pss_cons (ps_if (PW.pt (pw_or (pt_cmpR op_isN (pv 8) pe_non (nomark _)) (pw_or1 (pt_not (pt_val (pe_d D_l_tells (hr.mono (by decide)) (pa_cons (pe_ix ix_tup (pv 8) pe_int (fun _ _ => rfl)) (pa_cons (pv 2) (pa_cons (pe_ix ix_tup (pv 8) pe_int (fun _ _ => rfl)) pa_nil)))))))))
      (pss_one (ps_ret pe_bl))
      pss_nil)
    (pss_one (ps_expr (pe_bm PySem.F.plainAttrs_list PySem.F.slot_list_append PySem.F.type_list_append mt_append (pv 5) (pa_cons (pv 8) pa_nil)))))))))
  (pss_cons (ps_set (i := 7) sc_law.nd rfl (Or.inl rfl) (pe_d D_l_pick (hr.mono (by decide)) (pa_cons (pv 1) (pa_cons (pe_callB call_len_seq (by rfl) T.n_len (by decide +kernel) (pa_cons (pv 5) pa_nil)) pa_nil))))
  (pss_cons (ps_for PassesOwn.never rfl (pi_list (pv 5)) (pg_tup (by rfl) (pgs_cons (pg_name (i := 9) sc_law.nd rfl (Or.inl rfl)) (pgs_cons (pg_name (i := 10) sc_law.nd rfl (Or.inl rfl)) pgs_nil)))
    (pss_cons (ps_if (PW.pt (pw_or (pt_not (pt_val (pe_d D_l_tells (hr.mono (by decide)) (pa_cons (pv 9) (pa_cons (pv 2) (pa_cons (pv 10) pa_nil)))))) (pw_or1 (pt_not (pt_cmpR (op_eqO E_Shape (hr.mono (by decide))) (pe_fld (pv 9) rfl) (pv 4) (nomark _))))))
      (pss_one (ps_ret pe_bl))
      pss_nil)
    (pss_one (ps_if (PW.pt (pw_or (pt_cmpR op_ne (pe_cmpR (op_eqO E_Store (hr.mono (by decide))) (pv 9) (pe_ix ix_tup (pe_ix ix_list (pv 5) (pv 7) (fun _ _ => rfl)) pe_int (fun _ _ => rfl)) (nomark _)) (pe_cmpR (op_eqK hr.units66) (pv 10) (pe_ix ix_tup (pe_ix ix_list (pv 5) (pv 7) (fun _ _ => rfl)) pe_int (fun _ _ => rfl)) (nomark _)) (nomark _)) (pw_or1 (pt_cmpR op_ne (pe_cmpR (op_neO E_Store (hr.mono (by decide)) T3.c_ne T3.c_mro) (pe_ix ix_tup (pe_ix ix_list (pv 5) (pv 7) (fun _ _ => rfl)) pe_int (fun _ _ => rfl)) (pv 9) (nomark _)) (pe_cmpR (op_neK hr.units66) (pv 10) (pe_ix ix_tup (pe_ix ix_list (pv 5) (pv 7) (fun _ _ => rfl)) pe_int (fun _ _ => rfl)) (nomark _)) (nomark _)))))
      (pss_one (ps_ret pe_bl))
      pss_nil))))
  (pss_one (ps_ret pe_bl)))))))))), ?_⟩
    refine ⟨_, rfl, a, ns, rfl, hs, len, fun b H0 B0 => ?_⟩
    refine ⟨_, rfl, nil0, b, rfl, B0, fun p F0 H1 ts B01 _ ok tb0 => ?_⟩
    refine ⟨_, rfl, _, rfl, F0, b, p, ts, rfl, B01, tb0, ok, fun rd kvs F1 H2 g B1 s01 f1r ek good => ?_⟩
    obtain ⟨xs, hp, ta⟩ := tb0.same s01
    have lo := ok.lo
    have hi := ok.hi
    obtain ⟨R, hR⟩ := pick_r (P := fun t rs => g t.1 = .list (rs.map rowD) ∧ rs.length ≤ 9 ∧ ∀ r ∈ rs, goodR t.2.length r) ok.nd fun t m => by
      obtain ⟨_, R, e, l, hR⟩ := good t m
      obtain ⟨rs, e2, l2, g2⟩ := rows_ints hR
      exact ⟨rs, by rw [e, e2], by omega, g2⟩
    have val : ∀ t ∈ ts, ∃ v, valV kvs (Sum.inr t.1) = some v ∧ Tp F1 v (gL R t.1) := fun t m => by
      obtain ⟨⟨v, h1, h2⟩, _⟩ := good t m
      rw [(hR t m).1] at h2
      exact ⟨v, h1, h2⟩
    have rok : Rok ts R 9 := fun t m => (hR t m).2
    clear good hR
    obtain ⟨d1, d2, d3⟩ := ts_bd ok
    have h2r := B1.fh _ _ upd_same
    have sF1 : Same F1 H2 := (same_new _ f1r).trans B1.fh
    refine ⟨_, rfl, fun x dx nx nd ne => shape_made sF1 (.lst hp ta) (by omega) (by omega) (by omega) nx nd ne (fun i e => by rw [shape_ok ok] at e; cases e) fun _ F2 H3 g2 sh => ?_⟩
    rw [tabs_tupd] at sh
    obtain ⟨f2r, h3r⟩ := g2.hh _ _ f1r h2r
    have B2 := B1.grow (grow_with g2 f1r h2r)
    refine ⟨_, rfl, _, rfl, fun x2 dx2 nx2 nd2 ne2 => store_make g2.fh sh ok ⟨h3r, f2r, ek, fun t m => by obtain ⟨v, h1, h2⟩ := val t m; exact ⟨v, h1, h2.same g2.ff⟩, fun t m => ?_, fun t m => ?_⟩ nx2 nd2 ne2 (fun t i e => by rw [rok_bad rok] at e; cases e) fun _ => ⟨rok_total ok rok (by omega), fun F3 H4 g3 st => ?_⟩⟩
    · have z := (rok_bd ok rok (by omega) m).1
      show 1 + sizL ((R t.1).map rowD) ≤ 100000
      omega
    · have z := (rok_bd ok rok (by omega) m).2
      show 1 + depL ((R t.1).map rowD) < 40
      omega
    rw [gL_tupd] at st
    obtain ⟨f3r, h4r⟩ := g3.hh _ _ f2r h3r
    have B3 := B2.grow (grow_with g3 f2r h3r)
    have sS : Same F3 (upd F3 rd (.dK kvs)) := same_new _ f3r
    have s13 : Same F1 (upd F3 rd (.dK kvs)) := g2.ff.trans (g3.ff.trans sS)
    have tbS : TbAt (upd F3 rd (.dK kvs)) p ts := ⟨xs, s13 _ _ hp, ta.same s13⟩
    have stS := st.same sS
    have shS := sh.same (g3.ff.trans sS)
    have rsS : RsAt (upd F3 rd (.dK kvs)) rd ts (gL R) := ⟨kvs, upd_same, ek, fun t m => by obtain ⟨v, h1, h2⟩ := val t m; exact ⟨v, h1, h2.same s13⟩⟩
    generalize upd F3 rd (.dK kvs) = FS at *
    clear sS s13 st f3r h4r g3 B2 f2r h3r g2 sh sF1 h2r B1 f1r hp ta tb0 B01 val
    refine ⟨_, rfl, (by show 2 ≤ sizeLine; decide), fun t0 ht0 => ⟨(by show 1 ≤ sizeLine; decide), fun ls hls => ?_⟩⟩
    have B4 := B3.new (.tup [.ref x2, .ref rd]) ht0
    have sT : Same FS (upd FS t0 (.tup [.ref x2, .ref rd])) := same_new _ (B3.fh.free ht0)
    have kT : Kept CS CT (upd FS t0 (.tup [.ref x2, .ref rd])) ts (9 + 0) (.ref t0) := ⟨t0, x2, rd, R, rfl, upd_same, stS.same sT, rsS.same sT, rok⟩
    have tbT := tbS.same sT
    have shT := shS.same sT
    generalize upd FS t0 (.tup [.ref x2, .ref rd]) = G0 at *
    generalize upd H4 t0 (.tup [.ref x2, .ref rd]) = H5 at *
    have gl0 := B4.fh.free hls
    have B5 := B4.new (.lst [.ref t0]) hls
    clear B4 B3 sT stS rsS shS tbS ht0 nx2 nd2 ne2
    -- the deeds
    refine ⟨(by show 4 ≤ sizeLine; decide), fun m hm => ⟨_, rfl, _, b, 4, rfl, by decide, by decide, B5.new _ hm, fun r H6 r0 r1 B6 => ?_⟩⟩
    obtain ⟨v, hv, hvm⟩ := at_mem (xs := ([6, 12, 3, 40] : List Int).map V.int) r0 r1
    obtain ⟨z, hz, rfl⟩ := List.mem_map.mp hvm
    have z9 : 0 ≤ z ∧ z ≤ 40 := by
      have all : ∀ z ∈ ([6, 12, 3, 40] : List Int), 0 ≤ z ∧ z ≤ 40 := by decide
      exact all z hz
    refine ⟨m, _, _, _, rfl, rfl, .inl (.inl (B6.fh _ _ upd_same)), hv, z, rfl, by omega, by omega, ?_⟩
    have B7 := bag_sub (F := upd G0 ls (.lst [.ref t0])) (fun a o e => by rw [upd_ne (ne_of_none (B5.fh _ _ e) hm)]; exact e) B6
    clear B6 B5 hm hls
    refine for_range (lo := 0) (n := z.toNat) (fun j σ H' => ∃ (G : Hp) (us : List V) (v6 v7 v8 : Option V), σ = [some (.ref a), some (.ref b), some (.ref p), some (.ref rd), some (.ref x), some (.ref ls), v6, v7, v8, none, none] ∧ Same G0 G ∧ G ls = none ∧ Bag (upd G ls (.lst us)) H' b ∧ us.length = j + 1 ∧ ∀ u ∈ us, Kept CS CT G ts (9 + j) u) ?_ ?_ ?_
    · exact ⟨G0, [.ref t0], _, _, _, rfl, Same.refl _, gl0, B7, rfl, fun u mu => by rw [List.mem_singleton.mp mu]; exact kT⟩
    · rintro j σ H7 hj ⟨G, us, v6, v7, v8, rfl, sG, gl, B8, lus, kept⟩
      have als : ∀ {H'}, Bag (upd G ls (.lst us)) H' b → H' ls = some (.lst us) := fun B => B.fh _ _ upd_same
      have sGF : Same G (upd G ls (.lst us)) := same_new _ gl
      refine ⟨_, rfl, ls, us, rfl, .inl (.inl (.inl (als B8))), _, _, rfl, rfl, ?_⟩
      -- which one
      refine ⟨fun σ' H' => ∃ (i : Nat) (z : Int), σ' = [some (.ref a), some (.ref b), some (.ref p), some (.ref rd), some (.ref x), some (.ref ls), some (.int (0 + (j : Nat))), some (.int z), v8, none, none] ∧ z = (i : Nat) ∧ i < us.length ∧ Bag (upd G ls (.lst us)) H' b, ?_, ?_⟩
      · refine ⟨_, rfl, _, b, 5, rfl, by decide, by decide, B8, fun r H8 r0 r1 B9 => ⟨rfl, _, rfl, ifd (fun _ => ?_) fun _ => ?_⟩⟩
        · refine ⟨_, rfl, _, rfl, ls, us, rfl, .inl (.inl (.inl (als B9))), _, b, _, rfl, by omega, by omega, B9, fun r2 H9 r20 r21 B10 => ?_⟩
          exact ⟨r2.toNat, r2, rfl, by omega, by omega, B10⟩
        · exact ⟨j, _, rfl, by omega, by omega, B9⟩
      rintro σ' H8 ⟨i, _, rfl, rfl, hi2, B9⟩
      have hui : us[i]? = some us[i] := List.getElem?_eq_getElem hi2
      obtain ⟨t', st, rd', R', eu, ht', stA, rsA, rokA⟩ := kept us[i] (List.getElem_mem hi2)
      have toH : ∀ {x o}, G x = some o → H8 x = some o := fun e => B9.fh _ _ (sGF _ _ e)
      refine ⟨_, rfl, _, rfl, _, rfl, _, rfl, ls, us, _, _, rfl, rfl, .inl (.inl (als B9)), atI_nat hui, ?_⟩
      rw [eu]
      refine ⟨t', _, _, _, rfl, rfl, .inl (.inl (toH ht')), rfl, _, rfl, _, rfl, ls, us, _, _, rfl, rfl, .inl (.inl (als B9)), atI_nat hui, ?_⟩
      rw [eu]
      refine ⟨t', _, _, _, rfl, rfl, .inl (.inl (toH ht')), rfl, ?_⟩
      refine ⟨G, _, b, p, st, rd', ts, R', 9 + j, rfl, sGF, B9, tbT.same sG, ok, stA, rsA, rokA, by omega, fun x9 G9 F9 H9 st9 rd9 R9 g9 B10 hx9 st9A rs9A rok9 => ?_⟩
      have l9 := g9.hh ls (.lst us) gl upd_same
      have tbH : TbAt G9 p ts := (tbT.same sG).same g9.ff
      have s9H : Same G9 H9 := g9.fh.trans B10.fh
      refine ⟨_, rfl, rfl, _, rfl, iteF ?_⟩
      refine ⟨_, rfl, x9, _, _, _, rfl, rfl, .inl (.inl (s9H _ _ hx9)), rfl, _, rfl, _, rfl, x9, _, _, _, rfl, rfl, .inl (.inl (s9H _ _ hx9)), rfl, G9, st9, p, rd9, ts, R9, 9 + j + 1, rfl, s9H, tbH, ok, st9A, rs9A, rok9, by omega, fun H10 s10 => ⟨_, rfl, iteF ?_⟩⟩
      have B11 := bag_same B10 s10
      refine ⟨_, rfl, .inl ⟨rfl, _, .inl (.inl (B11.fh _ _ l9.2))⟩, _, rfl, ls, us, _, rfl, rfl, B11.fh _ _ l9.2, Nat.lt_of_le_of_lt (show us.length ≤ 100 by omega) (by decide), ?_⟩
      have B12 := B11.put (.lst (us ++ [.ref x9])) l9.2
      have B13 := bag_sub (F := upd G9 ls (.lst (us ++ [.ref x9]))) (same_upd g9.fh ls _) B12
      refine ⟨G9, us ++ [.ref x9], _, _, _, rfl, sG.trans g9.ff, l9.1, B13, by rw [List.length_append, lus]; rfl, fun u mu => ?_⟩
      rcases List.mem_append.mp mu with mu | mu
      · exact (kept u mu).same g9.ff (by omega)
      · rw [List.mem_singleton.mp mu]
        exact ⟨x9, st9, rd9, R9, rfl, hx9, st9A, rs9A, rok9⟩
    · rintro σ H7 ⟨G, us, v6, v7, v8, rfl, sG, gl, B8, lus, kept⟩
      have n40 : z.toNat ≤ 40 := by omega
      generalize z.toNat = n at *
      have als : ∀ {H'}, Bag (upd G ls (.lst us)) H' b → H' ls = some (.lst us) := fun B => B.fh _ _ upd_same
      have sGF : Same G (upd G ls (.lst us)) := same_new _ gl
      clear kT B7 hvm hv
      refine ⟨_, rfl, _, rfl, ls, us, rfl, .inl (.inl (.inl (als B8))), _, b, _, rfl, by omega, by omega, B8, fun r2 H9 r20 r21 B9 => ?_⟩
      obtain ⟨i0, rfl⟩ : ∃ i0 : Nat, r2 = (i0 : Int) := ⟨r2.toNat, by omega⟩
      have hu0 : us[i0]? = some (us[i0]'(by omega)) := List.getElem?_eq_getElem _
      obtain ⟨t0', st0, rd0, R0, eu0, ht0', st0A, rs0A, rok0⟩ := kept (us[i0]'(by omega)) (List.getElem_mem _)
      rw [eu0] at hu0
      refine ⟨_, rfl, ls, rfl, ⟨_, .inl (.inl (als B9))⟩, for_it walk_list (fun i σ H' => ∃ v9 v10, σ = [some (.ref a), some (.ref b), some (.ref p), some (.ref rd), some (.ref x), some (.ref ls), v6, some (.int (i0 : Nat)), v8, v9, v10] ∧ Bag (upd G ls (.lst us)) H' b) ⟨_, _, rfl, B9⟩ (fun i σ H' _ z => by obtain ⟨_, _, _, z⟩ := z; exact .inl (.inl (als z))) ?_ ?_⟩
      · rintro i u σ H11 H10 hi2 ⟨v9, v10, rfl, B10⟩ ⟨rfl, hu⟩
        obtain ⟨t', st, rd', R', rfl, ht', stA, rsA, rokA⟩ := kept u (List.mem_of_getElem? hu)
        have sH : Same G H10 := sGF.trans B10.fh
        refine ⟨t', _, rfl, .inl (.inl (sH _ _ ht')), rfl, _, _, rfl, _, _, rfl, rfl, ?_⟩
        refine ⟨_, rfl, _, rfl, _, rfl, G, st, p, rd', ts, R', 9 + n, rfl, sH, tbT.same sG, ok, stA, rsA, rokA, by omega, fun H12 s12 => ⟨_, rfl, iteF ?_⟩⟩
        have B12 := bag_same B10 s12
        have sH2 : Same G H12 := sGF.trans B12.fh
        obtain ⟨dx, sh', rr, hst, shA', kvs', hrr, ek', val'⟩ := id stA
        obtain ⟨dy, sh0, rr0, hst0, shA0, kvs0, hrr0, ek0, val0⟩ := id st0A
        obtain ⟨dz, vz, hsh', dvz⟩ := id shA'
        obtain ⟨dw, vw, hshx, dvw⟩ := id (shT.same sG)
        refine ⟨_, rfl, st, CT, dx, _, _, rfl, sH2 _ _ hst, T2.clT, T2.nSh, rfl, _, rfl, sh', dz, _, _, rfl, sH2 _ _ hsh', .base (.ins (sH2 _ _ hshx) T.cl T.c_cls T.c_get T.c_tak T.c_mro), first_same CS, ?_⟩
        refine ⟨G, sh', x, ts, rfl, sH2, shA', shT.same sG, ok, true, rfl, _, rfl, iteF ?_⟩
        have tyS : ∀ {s0 d0 : Addr} {fs : List (Str × V)}, G s0 = some (.ins CT d0 fs) → TyX K H12 (.ref s0) (.ref CT) := fun e => .base (.ins (sH2 _ _ e) T2.clT T3.c_cls T.c_get T.c_tak T3.c_mro)
        have kdL : ∀ {rd : Addr} {kvs : List (Key × V)} {R : Str → List (List Int)}, kvs.map (·.1) = ts.map (fun t => (Sum.inr t.1 : Key)) → (∀ t ∈ ts, ∃ v, valV kvs (Sum.inr t.1) = some v ∧ Tp G v (gL R t.1)) → KD K H12 kvs (pairsD ts (gL R)) := fun {rd kvs R} e v => kd_of ok.nd (shaped_rowsL R) (noD_L R) e fun t m => by obtain ⟨y, h1, h2⟩ := v t m; exact ⟨y, h1, h2.same sH2⟩
        obtain ⟨kv1, hr1, ek1, val1⟩ := id rsA
        obtain ⟨kv2, hr2, ek2, val2⟩ := id rs0A
        have als2 := als B12
        refine ⟨_, rfl, _, rfl, _, rfl, ls, us, _, _, rfl, rfl, .inl (.inl als2), atI_nat hu0, t0', _, _, _, rfl, rfl, .inl (.inl (sH2 _ _ ht0')), rfl, ?_⟩
        refine ⟨st, dx, _, _, rfl, sH2 _ _ hst, tyS hst0, first_same CT, G, st, st0, ts, R', R0, rfl, sH2, stA, st0A, ok, _, rfl, ?_⟩
        refine ⟨_, rfl, _, rfl, _, rfl, ls, us, _, _, rfl, rfl, .inl (.inl als2), atI_nat hu0, t0', _, _, _, rfl, rfl, .inl (.inl (sH2 _ _ ht0')), rfl, ?_⟩
        refine ⟨rd', rd0, kv1, kv2, pairsD ts (gL R'), pairsD ts (gL R0), rfl, rfl, sH2 _ _ hr1, sH2 _ _ hr2, kdL (rd := rd') ek1 val1, kdL (rd := rd0) ek2 val2, ?_⟩
        rw [eqKD_same (R := R') (S := R0) ok.nd eqv_L]
        refine ⟨rfl, _, rfl, ifF (by simp) ?_⟩
        refine ⟨_, rfl, _, rfl, ls, us, _, _, rfl, rfl, .inl (.inl als2), atI_nat hu0, t0', _, _, _, rfl, rfl, .inl (.inl (sH2 _ _ ht0')), rfl, ?_⟩
        refine ⟨_, rfl, st0, st, dy, dx, _, _, rfl, rfl, sH2 _ _ hst0, sH2 _ _ hst, G, st0, st, ts, R0, R', rfl, sH2, st0A, stA, ok, _, rfl, ?_⟩
        refine ⟨_, rfl, _, rfl, _, rfl, ls, us, _, _, rfl, rfl, .inl (.inl als2), atI_nat hu0, t0', _, _, _, rfl, rfl, .inl (.inl (sH2 _ _ ht0')), rfl, ?_⟩
        refine ⟨rd', rd0, kv1, kv2, pairsD ts (gL R'), pairsD ts (gL R0), rfl, rfl, sH2 _ _ hr1, sH2 _ _ hr2, kdL (rd := rd') ek1 val1, kdL (rd := rd0) ek2 val2, ?_⟩
        rw [eqKD_same (R := R') (S := R0) ok.nd eqv_L, sameR_comm ts R0 R']
        exact ⟨rfl, _, rfl, ifF (by simp) ⟨_, _, rfl, B12⟩⟩
      · rintro σ H10 ⟨v9, v10, rfl, B10⟩
        exact k _
end
end Fm

/-! ## K06R -/
set_option Elab.async false
set_option maxRecDepth 100000
set_option maxHeartbeats 4000000
namespace Fm
open PySem L2
section
variable {P : Program} {w : World} {K : PySem.W.Frag} {mg : Str → Option Value} {base : Heap}
abbrev s_BadShape_init : Stmt := inClass (topS 13) 0
abbrev sc_BadShape_initN : List Str := ["self", "at"]
abbrev ps_BadShape_init : List Str := ["self", "at"]
theorem sc_BadShape_init : FnScope sc_BadShape_initN ps_BadShape_init (defScope s_BadShape_init) := ⟨rfl, rfl, rfl, by decide +kernel, rfl, by decide +kernel, by decide +kernel⟩
theorem ok_BadShape {f : Addr} {fd : FuncData} (F : Fun K "__init__" "BadShape.__init__" s_BadShape_init f fd) : FnOk P w K mg base CX0 1 f fd ps_BadShape_init (spIn K "at") := by
  refine F.ok sc_BadShape_init (fun vs H Q E h => ?_) (fun cdv A outer s H vs Q E hr h => ?_)
  · obtain ⟨_, _, _, rfl, _⟩ := h
    rfl
  · obtain ⟨a, C, v, rfl, T, ha, hno, k⟩ := h
    exact ⟨_, pss_one (ps_ost (pv 0) (pv 1)), _, rfl, _, rfl, a, C, rfl, T, hno, .inl ⟨ha, fun dx h1 h2 => k dx h1 h2⟩⟩
abbrev s_BadName_init : Stmt := inClass (topS 14) 0
abbrev sc_BadName_initN : List Str := ["self", "value"]
abbrev ps_BadName_init : List Str := ["self", "value"]
theorem sc_BadName_init : FnScope sc_BadName_initN ps_BadName_init (defScope s_BadName_init) := ⟨rfl, rfl, rfl, by decide +kernel, rfl, by decide +kernel, by decide +kernel⟩
theorem ok_BadName {f : Addr} {fd : FuncData} (F : Fun K "__init__" "BadName.__init__" s_BadName_init f fd) : FnOk P w K mg base CX0 1 f fd ps_BadName_init (spIn K "value") := by
  refine F.ok sc_BadName_init (fun vs H Q E h => ?_) (fun cdv A outer s H vs Q E hr h => ?_)
  · obtain ⟨_, _, _, rfl, _⟩ := h
    rfl
  · obtain ⟨a, C, v, rfl, T, ha, hno, k⟩ := h
    exact ⟨_, pss_one (ps_ost (pv 0) (pv 1)), _, rfl, _, rfl, a, C, rfl, T, hno, .inl ⟨ha, fun dx h1 h2 => k dx h1 h2⟩⟩
abbrev s_BadRows_init : Stmt := inClass (topS 16) 0
abbrev sc_BadRows_initN : List Str := ["self", "value"]
abbrev ps_BadRows_init : List Str := ["self", "value"]
theorem sc_BadRows_init : FnScope sc_BadRows_initN ps_BadRows_init (defScope s_BadRows_init) := ⟨rfl, rfl, rfl, by decide +kernel, rfl, by decide +kernel, by decide +kernel⟩
theorem ok_BadRows {f : Addr} {fd : FuncData} (F : Fun K "__init__" "BadRows.__init__" s_BadRows_init f fd) : FnOk P w K mg base CX0 1 f fd ps_BadRows_init (spIn K "value") := by
  refine F.ok sc_BadRows_init (fun vs H Q E h => ?_) (fun cdv A outer s H vs Q E hr h => ?_)
  · obtain ⟨_, _, _, rfl, _⟩ := h
    rfl
  · obtain ⟨a, C, v, rfl, T, ha, hno, k⟩ := h
    exact ⟨_, pss_one (ps_ost (pv 0) (pv 1)), _, rfl, _, rfl, a, C, rfl, T, hno, .inl ⟨ha, fun dx h1 h2 => k dx h1 h2⟩⟩
abbrev s_BadIndex_init : Stmt := inClass (topS 17) 0
abbrev sc_BadIndex_initN : List Str := ["self", "value"]
abbrev ps_BadIndex_init : List Str := ["self", "value"]
theorem sc_BadIndex_init : FnScope sc_BadIndex_initN ps_BadIndex_init (defScope s_BadIndex_init) := ⟨rfl, rfl, rfl, by decide +kernel, rfl, by decide +kernel, by decide +kernel⟩
theorem ok_BadIndex {f : Addr} {fd : FuncData} (F : Fun K "__init__" "BadIndex.__init__" s_BadIndex_init f fd) : FnOk P w K mg base CX0 1 f fd ps_BadIndex_init (spIn K "value") := by
  refine F.ok sc_BadIndex_init (fun vs H Q E h => ?_) (fun cdv A outer s H vs Q E hr h => ?_)
  · obtain ⟨_, _, _, rfl, _⟩ := h
    rfl
  · obtain ⟨a, C, v, rfl, T, ha, hno, k⟩ := h
    exact ⟨_, pss_one (ps_ost (pv 0) (pv 1)), _, rfl, _, rfl, a, C, rfl, T, hno, .inl ⟨ha, fun dx h1 h2 => k dx h1 h2⟩⟩
end
end Fm

/-! ## FmErr -/
set_option Elab.async false
set_option maxRecDepth 100000
set_option maxHeartbeats 4000000
/-! What the classes of the own errors say of themselves, for the end of a law. -/
namespace Fm
open PySem L2
def veC : List Value := [.type "ValueError", .type "Exception", .type "BaseException", .type "object"]
/-- what an error's class says of itself -/
def exB (K : PySem.W.Frag) (C : Addr) : Bool :=
  decide (PySem.W.findIn K (.ref C) "__getattribute__" = some (some (.builtin "BaseException.__getattribute__"))) && decide (PySem.W.findIn K (.ref C) "__getattr__" = some none) && decide (PySem.W.subIn K (.ref C) (.type "BaseException") = some true) && PySem.W.hasDictIn K C &&
  decide (PySem.W.findIn K (.ref C) "__class__" = some (some (.builtin "object.__class__"))) && decide (PySem.W.mroIn K C (.type "object") = some true) && decide (PySem.W.typeIn K (.ref C) = some (.type "type")) && PySem.W.keepIn K (.ref C) &&
  decide (PySem.W.findIn K (.ref C) "__setattr__" = some (some (.builtin "object.__setattr__")))
structure ExF (K : PySem.W.Frag) (C : Addr) : Prop where
  ga : PySem.W.findIn K (.ref C) "__getattribute__" = some (some (.builtin "BaseException.__getattribute__"))
  gg : PySem.W.findIn K (.ref C) "__getattr__" = some none
  sb : PySem.W.subIn K (.ref C) (.type "BaseException") = some true
  hd : PySem.W.hasDictIn K C = true
  cc : PySem.W.findIn K (.ref C) "__class__" = some (some (.builtin "object.__class__"))
  mo : PySem.W.mroIn K C (.type "object") = some true
  ty : PySem.W.typeIn K (.ref C) = some (.type "type")
  kp : PySem.W.keepIn K (.ref C) = true
  sa : PySem.W.findIn K (.ref C) "__setattr__" = some (some (.builtin "object.__setattr__"))
theorem exB_ok {K : PySem.W.Frag} {C : Addr} (h : exB K C = true) : ExF K C := by
  simp only [exB, Bool.and_eq_true, decide_eq_true_eq] at h
  obtain ⟨⟨⟨⟨⟨⟨⟨⟨h1, h2⟩, h3⟩, h4⟩, h5⟩, h6⟩, h7⟩, h8⟩, h9⟩ := h
  exact ⟨h1, h2, h3, h4, h5, h6, h7, h8, h9⟩
theorem kbn_one {K : PySem.W.Frag} {fd : FuncData} {f : Str} (h : ∀ u w : Value, bindArgs fd ⟨[u], [(f, w)]⟩ = pure [(("self" : Str), u), (f, w)]) : KBn K fd ["self", f] 1 [f] (fun us ws => us ++ ws) (fun vs zs => vs ++ zs) :=
  ⟨fun s us ws _ l1 l2 => match us, ws, l1, l2 with | [u], [w], _, _ => .of_eq (h u w), fun r1 r2 => r1.append r2⟩
/-- a list of errors: those with a field (and its name), those without; cs: the classes, in this order -/
def errsB (K : PySem.W.Frag) (fs : List (Addr × Str)) (zs : List Addr) : Bool :=
  (fs.all fun p => exB K p.1 && decide (PySem.W.findIn K (.ref p.1) p.2 = some none)) && (zs.all fun c => exB K c && PySem.W.excIn K c veC "ValueError.__new__") &&
  ((List.range (fs.length + zs.length)).all fun i => (List.range (fs.length + zs.length)).all fun j => decide (PySem.W.subIn K (.ref ((fs.map (·.1) ++ zs).getD i 0)) (.ref ((fs.map (·.1) ++ zs).getD j 0)) = some (decide (i = j))))
theorem errs_f {K : PySem.W.Frag} {fs : List (Addr × Str)} {zs : List Addr} (h : errsB K fs zs = true) : ∀ p ∈ fs, ExF K p.1 ∧ PySem.W.findIn K (.ref p.1) p.2 = some none := fun p m => by
  simp only [errsB, Bool.and_eq_true, List.all_eq_true, decide_eq_true_eq] at h
  exact ⟨exB_ok (h.1.1 p m).1, (h.1.1 p m).2⟩
theorem errs_z {K : PySem.W.Frag} {fs : List (Addr × Str)} {zs : List Addr} (h : errsB K fs zs = true) : ∀ c ∈ zs, ExF K c ∧ PySem.W.excIn K c veC "ValueError.__new__" = true := fun p m => by
  simp only [errsB, Bool.and_eq_true, List.all_eq_true, decide_eq_true_eq] at h
  exact ⟨exB_ok (h.1.2 p m).1, (h.1.2 p m).2⟩
theorem errs_s {K : PySem.W.Frag} {fs : List (Addr × Str)} {zs : List Addr} (h : errsB K fs zs = true) (i j : Nat) (hi : i < fs.length + zs.length) (hj : j < fs.length + zs.length) : PySem.W.subIn K (.ref ((fs.map (·.1) ++ zs).getD i 0)) (.ref ((fs.map (·.1) ++ zs).getD j 0)) = some (decide (i = j)) := by
  simp only [errsB, Bool.and_eq_true, List.all_eq_true, decide_eq_true_eq, List.mem_range] at h
  exact h.2 i hi j hj
end Fm

/-! ## K06M -/
set_option Elab.async false
set_option maxRecDepth 100000
set_option maxHeartbeats 16000000
namespace Fm
open PySem L2
/-! ### what the top has written, the head -/
theorem all_mk {l : PySem.W.OpenLaw} {w : World} {K : PySem.W.Frag} {h : Heap} {mg : Str → Option Value} {fa CE CS CT CB CN CR CI CM f0 f1 f2 f3 f4 f5 f6 f7 f8 f9 f10 f11 f12 f13 f14 f15 f16 f17 f18 f19 f20 f21 f22 f23 f24 f25 f26 f27 f28 f29 f30 f31 f32 f33 : Addr} (X : K.In h) (G : h.Ns mainGlobals mg) (hfa : mg "law" = some (.ref fa))
    {od0 an0 od1 an1 od2 an2 od3 an3 od4 an4 od5 an5 od6 an6 od7 an7 od8 an8 od9 an9 od10 an10 od11 an11 od12 an12 od13 an13 od14 an14 od15 an15 od16 an16 od17 an17 od18 an18 od19 an19 od20 an20 od21 an21 od22 an22 od23 an23 od24 an24 od25 an25 od26 an26 od27 an27 od28 an28 od29 an29 od30 an30 od31 an31 od32 an32 od33 an33 : Option Addr}
    {sl0 sl1 sl2 sl3 sl4 sl5 sl6 sl7 sl8 sl9 sl10 sl11 sl12 sl13 sl14 sl15 sl16 sl17 sl18 sl19 sl20 sl21 sl22 sl23 sl24 sl25 sl26 sl27 sl28 sl29 sl30 sl31 sl32 sl33 : Array (Option Value)}
    {oc0 kV0 dc0 pm0 cd0 ct0 oc1 kV1 dc1 pm1 cd1 ct1 oc2 kV2 dc2 pm2 cd2 ct2 oc3 kV3 dc3 pm3 cd3 ct3 oc4 kV4 dc4 pm4 cd4 ct4 oc5 kV5 dc5 pm5 cd5 ct5 oc6 kV6 dc6 pm6 cd6 ct6 oc7 kV7 dc7 pm7 cd7 ct7 oc8 kV8 dc8 pm8 cd8 ct8 oc9 kV9 dc9 pm9 cd9 ct9 oc10 kV10 dc10 pm10 cd10 ct10 oc11 kV11 dc11 pm11 cd11 ct11 oc12 kV12 dc12 pm12 cd12 ct12 oc13 kV13 dc13 pm13 cd13 ct13 oc14 kV14 dc14 pm14 cd14 ct14 oc15 kV15 dc15 pm15 cd15 ct15 oc16 kV16 dc16 pm16 cd16 ct16 oc17 kV17 dc17 pm17 cd17 ct17 oc18 kV18 dc18 pm18 cd18 ct18 oc19 kV19 dc19 pm19 cd19 ct19 oc20 kV20 dc20 pm20 cd20 ct20 oc21 kV21 dc21 pm21 cd21 ct21 oc22 kV22 dc22 pm22 cd22 ct22 oc23 kV23 dc23 pm23 cd23 ct23 oc24 kV24 dc24 pm24 cd24 ct24 oc25 kV25 dc25 pm25 cd25 ct25 oc26 kV26 dc26 pm26 cd26 ct26 oc27 kV27 dc27 pm27 cd27 ct27 oc28 kV28 dc28 pm28 cd28 ct28 oc29 kV29 dc29 pm29 cd29 ct29 oc30 kV30 dc30 pm30 cd30 ct30 oc31 kV31 dc31 pm31 cd31 ct31 oc32 kV32 dc32 pm32 cd32 ct32 oc33 kV33 dc33 pm33 cd33 ct33 : Value}
    {nm0 qn0 : Str} {N0 : Addr} {bs0 : List Value} {sn0 : List Str} {sub0 : List Value} {ab0 : Bool} {col0 : Option Bool} {dd0 : Option Addr} {m00_ m10_ m20_ m30_ m50_ : Option Value}
    {nm1 qn1 : Str} {N1 : Addr} {bs1 : List Value} {sn1 : List Str} {sub1 : List Value} {ab1 : Bool} {col1 : Option Bool} {dd1 : Option Addr} {m01_ m11_ m21_ m31_ m51_ : Option Value}
    {nm2 qn2 : Str} {N2 : Addr} {bs2 : List Value} {sn2 : List Str} {sub2 : List Value} {ab2 : Bool} {col2 : Option Bool} {dd2 : Option Addr} {m02_ m12_ m22_ m32_ m52_ : Option Value}
    {nm3 qn3 : Str} {N3 : Addr} {bs3 : List Value} {sn3 : List Str} {sub3 : List Value} {ab3 : Bool} {col3 : Option Bool} {dd3 : Option Addr} {m03_ m13_ m23_ m33_ m53_ : Option Value}
    (aC_Shape : PySem.W.nsIn K mainGlobals "Shape" = some (some (.ref CS)))
    (aC_Store : PySem.W.nsIn K mainGlobals "Store" = some (some (.ref CT)))
    (aC_BadShape : PySem.W.nsIn K mainGlobals "BadShape" = some (some (.ref CB)))
    (aC_BadName : PySem.W.nsIn K mainGlobals "BadName" = some (some (.ref CN)))
    (aC_BadRows : PySem.W.nsIn K mainGlobals "BadRows" = some (some (.ref CR)))
    (aC_BadIndex : PySem.W.nsIn K mainGlobals "BadIndex" = some (some (.ref CI)))
    (aC_TooMany : PySem.W.nsIn K mainGlobals "TooMany" = some (some (.ref CM)))
    (xL0 : K.lookup CB = some (excClassObj nm0 qn0 CB N0 bs0 [.ref CE, .type "ValueError", .type "Exception", .type "BaseException", .type "object"] true sn0 sub0 ab0 col0 dd0 m00_ m10_ m20_ m30_ m50_ "ValueError.__new__"))
    (xL1 : K.lookup CN = some (excClassObj nm1 qn1 CN N1 bs1 [.ref CE, .type "ValueError", .type "Exception", .type "BaseException", .type "object"] true sn1 sub1 ab1 col1 dd1 m01_ m11_ m21_ m31_ m51_ "ValueError.__new__"))
    (xL2 : K.lookup CR = some (excClassObj nm2 qn2 CR N2 bs2 [.ref CE, .type "ValueError", .type "Exception", .type "BaseException", .type "object"] true sn2 sub2 ab2 col2 dd2 m02_ m12_ m22_ m32_ m52_ "ValueError.__new__"))
    (xL3 : K.lookup CI = some (excClassObj nm3 qn3 CI N3 bs3 [.ref CE, .type "ValueError", .type "Exception", .type "BaseException", .type "object"] true sn3 sub3 ab3 col3 dd3 m03_ m13_ m23_ m33_ m53_ "ValueError.__new__"))
    (a0 : PySem.W.nsIn K mainGlobals "_law_pick" = some (some (.ref f0)))
    (l0 : K.lookup f0 = some ⟨oc0, od0, .func (PySem.W.fnOf "_law_pick" "_law_pick" (defArgs s_l_pick) (defBody s_l_pick) (defScope s_l_pick) .none kV0 dc0 pm0 an0 cd0 ct0), sl0⟩)
    (c0 : PySem.W.codeIn K cd0 "_law_pick" = true)
    (k0 : PySem.W.keepIn K (.ref f0) = true)
    (a1 : PySem.W.nsIn K mainGlobals "is_name" = some (some (.ref f1)))
    (l1 : K.lookup f1 = some ⟨oc1, od1, .func (PySem.W.fnOf "is_name" "is_name" (defArgs s_is_name) (defBody s_is_name) (defScope s_is_name) .none kV1 dc1 pm1 an1 cd1 ct1), sl1⟩)
    (c1 : PySem.W.codeIn K cd1 "is_name" = true)
    (k1 : PySem.W.keepIn K (.ref f1) = true)
    (a2 : PySem.W.nsIn K mainGlobals "is_row" = some (some (.ref f2)))
    (l2 : K.lookup f2 = some ⟨oc2, od2, .func (PySem.W.fnOf "is_row" "is_row" (defArgs s_is_row) (defBody s_is_row) (defScope s_is_row) .none kV2 dc2 pm2 an2 cd2 ct2), sl2⟩)
    (c2 : PySem.W.codeIn K cd2 "is_row" = true)
    (k2 : PySem.W.keepIn K (.ref f2) = true)
    (a3 : PySem.W.nsIn K mainGlobals "is_tuple" = some (some (.ref f3)))
    (l3 : K.lookup f3 = some ⟨oc3, od3, .func (PySem.W.fnOf "is_tuple" "is_tuple" (defArgs s_is_tuple) (defBody s_is_tuple) (defScope s_is_tuple) .none kV3 dc3 pm3 an3 cd3 ct3), sl3⟩)
    (c3 : PySem.W.codeIn K cd3 "is_tuple" = true)
    (k3 : PySem.W.keepIn K (.ref f3) = true)
    (a4 : PySem.W.nsIn K mainGlobals "are_names" = some (some (.ref f4)))
    (l4 : K.lookup f4 = some ⟨oc4, od4, .func (PySem.W.fnOf "are_names" "are_names" (defArgs s_are_names) (defBody s_are_names) (defScope s_are_names) .none kV4 dc4 pm4 an4 cd4 ct4), sl4⟩)
    (c4 : PySem.W.codeIn K cd4 "are_names" = true)
    (k4 : PySem.W.keepIn K (.ref f4) = true)
    (a5 : PySem.W.nsIn K mainGlobals "as_tuples" = some (some (.ref f5)))
    (l5 : K.lookup f5 = some ⟨oc5, od5, .func (PySem.W.fnOf "as_tuples" "as_tuples" (defArgs s_as_tuples) (defBody s_as_tuples) (defScope s_as_tuples) .none kV5 dc5 pm5 an5 cd5 ct5), sl5⟩)
    (c5 : PySem.W.codeIn K cd5 "as_tuples" = true)
    (k5 : PySem.W.keepIn K (.ref f5) = true)
    (a6 : PySem.W.nsIn K mainGlobals "is_table" = some (some (.ref f6)))
    (l6 : K.lookup f6 = some ⟨oc6, od6, .func (PySem.W.fnOf "is_table" "is_table" (defArgs s_is_table) (defBody s_is_table) (defScope s_is_table) .none kV6 dc6 pm6 an6 cd6 ct6), sl6⟩)
    (c6 : PySem.W.codeIn K cd6 "is_table" = true)
    (k6 : PySem.W.keepIn K (.ref f6) = true)
    (a7 : PySem.W.nsIn K mainGlobals "check_tables" = some (some (.ref f7)))
    (l7 : K.lookup f7 = some ⟨oc7, od7, .func (PySem.W.fnOf "check_tables" "check_tables" (defArgs s_check_tables) (defBody s_check_tables) (defScope s_check_tables) .none kV7 dc7 pm7 an7 cd7 ct7), sl7⟩)
    (c7 : PySem.W.codeIn K cd7 "check_tables" = true)
    (k7 : PySem.W.keepIn K (.ref f7) = true)
    (a8 : PySem.W.findIn K (.ref CS) "__init__" = some (some (.ref f8)))
    (i8 : PySem.W.isFn K (.ref f8) = true)
    (l8 : K.lookup f8 = some ⟨oc8, od8, .func (PySem.W.fnOf "__init__" "Shape.__init__" (defArgs s_Shape_init) (defBody s_Shape_init) (defScope s_Shape_init) .none kV8 dc8 pm8 an8 cd8 ct8), sl8⟩)
    (c8 : PySem.W.codeIn K cd8 "Shape.__init__" = true)
    (k8 : PySem.W.keepIn K (.ref f8) = true)
    (a9 : PySem.W.nsIn K mainGlobals "_law_bag" = some (some (.ref f9)))
    (l9 : K.lookup f9 = some ⟨oc9, od9, .func (PySem.W.fnOf "_law_bag" "_law_bag" (defArgs s_l_bag) (defBody s_l_bag) (defScope s_l_bag) .none kV9 dc9 pm9 an9 cd9 ct9), sl9⟩)
    (c9 : PySem.W.codeIn K cd9 "_law_bag" = true)
    (k9 : PySem.W.keepIn K (.ref f9) = true)
    (a10 : PySem.W.nsIn K mainGlobals "_law_name" = some (some (.ref f10)))
    (l10 : K.lookup f10 = some ⟨oc10, od10, .func (PySem.W.fnOf "_law_name" "_law_name" (defArgs s_l_name) (defBody s_l_name) (defScope s_l_name) .none kV10 dc10 pm10 an10 cd10 ct10), sl10⟩)
    (c10 : PySem.W.codeIn K cd10 "_law_name" = true)
    (k10 : PySem.W.keepIn K (.ref f10) = true)
    (a11 : PySem.W.nsIn K mainGlobals "_law_tables" = some (some (.ref f11)))
    (l11 : K.lookup f11 = some ⟨oc11, od11, .func (PySem.W.fnOf "_law_tables" "_law_tables" (defArgs s_l_tables) (defBody s_l_tables) (defScope s_l_tables) .none kV11 dc11 pm11 an11 cd11 ct11), sl11⟩)
    (c11 : PySem.W.codeIn K cd11 "_law_tables" = true)
    (k11 : PySem.W.keepIn K (.ref f11) = true)
    (a12 : PySem.W.nsIn K mainGlobals "_law_alike" = some (some (.ref f12)))
    (l12 : K.lookup f12 = some ⟨oc12, od12, .func (PySem.W.fnOf "_law_alike" "_law_alike" (defArgs s_l_alike) (defBody s_l_alike) (defScope s_l_alike) .none kV12 dc12 pm12 an12 cd12 ct12), sl12⟩)
    (c12 : PySem.W.codeIn K cd12 "_law_alike" = true)
    (k12 : PySem.W.keepIn K (.ref f12) = true)
    (a13 : PySem.W.nsIn K mainGlobals "is_integer" = some (some (.ref f13)))
    (l13 : K.lookup f13 = some ⟨oc13, od13, .func (PySem.W.fnOf "is_integer" "is_integer" (defArgs s_is_integer) (defBody s_is_integer) (defScope s_is_integer) .none kV13 dc13 pm13 an13 cd13 ct13), sl13⟩)
    (c13 : PySem.W.codeIn K cd13 "is_integer" = true)
    (k13 : PySem.W.keepIn K (.ref f13) = true)
    (a14 : PySem.W.nsIn K mainGlobals "is_value" = some (some (.ref f14)))
    (l14 : K.lookup f14 = some ⟨oc14, od14, .func (PySem.W.fnOf "is_value" "is_value" (defArgs s_is_value) (defBody s_is_value) (defScope s_is_value) .none kV14 dc14 pm14 an14 cd14 ct14), sl14⟩)
    (c14 : PySem.W.codeIn K cd14 "is_value" = true)
    (k14 : PySem.W.keepIn K (.ref f14) = true)
    (a15 : PySem.W.nsIn K mainGlobals "first_wrong_row" = some (some (.ref f15)))
    (l15 : K.lookup f15 = some ⟨oc15, od15, .func (PySem.W.fnOf "first_wrong_row" "first_wrong_row" (defArgs s_first_wrong_row) (defBody s_first_wrong_row) (defScope s_first_wrong_row) .none kV15 dc15 pm15 an15 cd15 ct15), sl15⟩)
    (c15 : PySem.W.codeIn K cd15 "first_wrong_row" = true)
    (k15 : PySem.W.keepIn K (.ref f15) = true)
    (a16 : PySem.W.nsIn K mainGlobals "check_rows" = some (some (.ref f16)))
    (l16 : K.lookup f16 = some ⟨oc16, od16, .func (PySem.W.fnOf "check_rows" "check_rows" (defArgs s_check_rows) (defBody s_check_rows) (defScope s_check_rows) .none kV16 dc16 pm16 an16 cd16 ct16), sl16⟩)
    (c16 : PySem.W.codeIn K cd16 "check_rows" = true)
    (k16 : PySem.W.keepIn K (.ref f16) = true)
    (a17 : PySem.W.findIn K (.ref CT) "__init__" = some (some (.ref f17)))
    (i17 : PySem.W.isFn K (.ref f17) = true)
    (l17 : K.lookup f17 = some ⟨oc17, od17, .func (PySem.W.fnOf "__init__" "Store.__init__" (defArgs s_Store_init) (defBody s_Store_init) (defScope s_Store_init) .none kV17 dc17 pm17 an17 cd17 ct17), sl17⟩)
    (c17 : PySem.W.codeIn K cd17 "Store.__init__" = true)
    (k17 : PySem.W.keepIn K (.ref f17) = true)
    (a18 : PySem.W.findIn K (.ref CS) "fields_of" = some (some (.ref f18)))
    (i18 : PySem.W.isFn K (.ref f18) = true)
    (l18 : K.lookup f18 = some ⟨oc18, od18, .func (PySem.W.fnOf "fields_of" "Shape.fields_of" (defArgs s_Shape_fields_of) (defBody s_Shape_fields_of) (defScope s_Shape_fields_of) .none kV18 dc18 pm18 an18 cd18 ct18), sl18⟩)
    (c18 : PySem.W.codeIn K cd18 "Shape.fields_of" = true)
    (k18 : PySem.W.keepIn K (.ref f18) = true)
    (a19 : PySem.W.findIn K (.ref CT) "rows_of" = some (some (.ref f19)))
    (i19 : PySem.W.isFn K (.ref f19) = true)
    (l19 : K.lookup f19 = some ⟨oc19, od19, .func (PySem.W.fnOf "rows_of" "Store.rows_of" (defArgs s_Store_rows_of) (defBody s_Store_rows_of) (defScope s_Store_rows_of) .none kV19 dc19 pm19 an19 cd19 ct19), sl19⟩)
    (c19 : PySem.W.codeIn K cd19 "Store.rows_of" = true)
    (k19 : PySem.W.keepIn K (.ref f19) = true)
    (a20 : PySem.W.findIn K (.ref CT) "_with_rows" = some (some (.ref f20)))
    (i20 : PySem.W.isFn K (.ref f20) = true)
    (l20 : K.lookup f20 = some ⟨oc20, od20, .func (PySem.W.fnOf "_with_rows" "Store._with_rows" (defArgs s_Store__with_rows) (defBody s_Store__with_rows) (defScope s_Store__with_rows) .none kV20 dc20 pm20 an20 cd20 ct20), sl20⟩)
    (c20 : PySem.W.codeIn K cd20 "Store._with_rows" = true)
    (k20 : PySem.W.keepIn K (.ref f20) = true)
    (a21 : PySem.W.findIn K (.ref CT) "with_row" = some (some (.ref f21)))
    (i21 : PySem.W.isFn K (.ref f21) = true)
    (l21 : K.lookup f21 = some ⟨oc21, od21, .func (PySem.W.fnOf "with_row" "Store.with_row" (defArgs s_Store_with_row) (defBody s_Store_with_row) (defScope s_Store_with_row) .none kV21 dc21 pm21 an21 cd21 ct21), sl21⟩)
    (c21 : PySem.W.codeIn K cd21 "Store.with_row" = true)
    (k21 : PySem.W.keepIn K (.ref f21) = true)
    (a22 : PySem.W.findIn K (.ref CT) "without_row" = some (some (.ref f22)))
    (i22 : PySem.W.isFn K (.ref f22) = true)
    (l22 : K.lookup f22 = some ⟨oc22, od22, .func (PySem.W.fnOf "without_row" "Store.without_row" (defArgs s_Store_without_row) (defBody s_Store_without_row) (defScope s_Store_without_row) .none kV22 dc22 pm22 an22 cd22 ct22), sl22⟩)
    (c22 : PySem.W.codeIn K cd22 "Store.without_row" = true)
    (k22 : PySem.W.keepIn K (.ref f22) = true)
    (a23 : PySem.W.nsIn K mainGlobals "_law_value" = some (some (.ref f23)))
    (l23 : K.lookup f23 = some ⟨oc23, od23, .func (PySem.W.fnOf "_law_value" "_law_value" (defArgs s_l_value) (defBody s_l_value) (defScope s_l_value) .none kV23 dc23 pm23 an23 cd23 ct23), sl23⟩)
    (c23 : PySem.W.codeIn K cd23 "_law_value" = true)
    (k23 : PySem.W.keepIn K (.ref f23) = true)
    (a24 : PySem.W.nsIn K mainGlobals "_law_rows" = some (some (.ref f24)))
    (l24 : K.lookup f24 = some ⟨oc24, od24, .func (PySem.W.fnOf "_law_rows" "_law_rows" (defArgs s_l_rows) (defBody s_l_rows) (defScope s_l_rows) .none kV24 dc24 pm24 an24 cd24 ct24), sl24⟩)
    (c24 : PySem.W.codeIn K cd24 "_law_rows" = true)
    (k24 : PySem.W.keepIn K (.ref f24) = true)
    (a25 : PySem.W.findIn K (.ref CS) "__eq__" = some (some (.ref f25)))
    (i25 : PySem.W.isFn K (.ref f25) = true)
    (l25 : K.lookup f25 = some ⟨oc25, od25, .func (PySem.W.fnOf "__eq__" "Shape.__eq__" (defArgs s_Shape_eq) (defBody s_Shape_eq) (defScope s_Shape_eq) .none kV25 dc25 pm25 an25 cd25 ct25), sl25⟩)
    (c25 : PySem.W.codeIn K cd25 "Shape.__eq__" = true)
    (k25 : PySem.W.keepIn K (.ref f25) = true)
    (a26 : PySem.W.findIn K (.ref CT) "__eq__" = some (some (.ref f26)))
    (i26 : PySem.W.isFn K (.ref f26) = true)
    (l26 : K.lookup f26 = some ⟨oc26, od26, .func (PySem.W.fnOf "__eq__" "Store.__eq__" (defArgs s_Store_eq) (defBody s_Store_eq) (defScope s_Store_eq) .none kV26 dc26 pm26 an26 cd26 ct26), sl26⟩)
    (c26 : PySem.W.codeIn K cd26 "Store.__eq__" = true)
    (k26 : PySem.W.keepIn K (.ref f26) = true)
    (a27 : PySem.W.nsIn K mainGlobals "_law_tells" = some (some (.ref f27)))
    (l27 : K.lookup f27 = some ⟨oc27, od27, .func (PySem.W.fnOf "_law_tells" "_law_tells" (defArgs s_l_tells) (defBody s_l_tells) (defScope s_l_tells) .none kV27 dc27 pm27 an27 cd27 ct27), sl27⟩)
    (c27 : PySem.W.codeIn K cd27 "_law_tells" = true)
    (k27 : PySem.W.keepIn K (.ref f27) = true)
    (a28 : PySem.W.nsIn K mainGlobals "_law_deed" = some (some (.ref f28)))
    (l28 : K.lookup f28 = some ⟨oc28, od28, .func (PySem.W.fnOf "_law_deed" "_law_deed" (defArgs s_l_deed) (defBody s_l_deed) (defScope s_l_deed) .none kV28 dc28 pm28 an28 cd28 ct28), sl28⟩)
    (c28 : PySem.W.codeIn K cd28 "_law_deed" = true)
    (k28 : PySem.W.keepIn K (.ref f28) = true)
    (a29 : PySem.W.findIn K (.ref CB) "__init__" = some (some (.ref f29)))
    (t29 : PySem.W.typeIn K (.ref f29) = some (.type "function"))
    (l29 : K.lookup f29 = some ⟨oc29, od29, .func (PySem.W.fnOf "__init__" "BadShape.__init__" (defArgs s_BadShape_init) (defBody s_BadShape_init) (defScope s_BadShape_init) .none kV29 dc29 pm29 an29 cd29 ct29), sl29⟩)
    (c29 : PySem.W.codeIn K cd29 "BadShape.__init__" = true)
    (k29 : PySem.W.keepIn K (.ref f29) = true)
    (a30 : PySem.W.findIn K (.ref CN) "__init__" = some (some (.ref f30)))
    (t30 : PySem.W.typeIn K (.ref f30) = some (.type "function"))
    (l30 : K.lookup f30 = some ⟨oc30, od30, .func (PySem.W.fnOf "__init__" "BadName.__init__" (defArgs s_BadName_init) (defBody s_BadName_init) (defScope s_BadName_init) .none kV30 dc30 pm30 an30 cd30 ct30), sl30⟩)
    (c30 : PySem.W.codeIn K cd30 "BadName.__init__" = true)
    (k30 : PySem.W.keepIn K (.ref f30) = true)
    (a31 : PySem.W.findIn K (.ref CR) "__init__" = some (some (.ref f31)))
    (t31 : PySem.W.typeIn K (.ref f31) = some (.type "function"))
    (l31 : K.lookup f31 = some ⟨oc31, od31, .func (PySem.W.fnOf "__init__" "BadRows.__init__" (defArgs s_BadRows_init) (defBody s_BadRows_init) (defScope s_BadRows_init) .none kV31 dc31 pm31 an31 cd31 ct31), sl31⟩)
    (c31 : PySem.W.codeIn K cd31 "BadRows.__init__" = true)
    (k31 : PySem.W.keepIn K (.ref f31) = true)
    (a32 : PySem.W.findIn K (.ref CI) "__init__" = some (some (.ref f32)))
    (t32 : PySem.W.typeIn K (.ref f32) = some (.type "function"))
    (l32 : K.lookup f32 = some ⟨oc32, od32, .func (PySem.W.fnOf "__init__" "BadIndex.__init__" (defArgs s_BadIndex_init) (defBody s_BadIndex_init) (defScope s_BadIndex_init) .none kV32 dc32 pm32 an32 cd32 ct32), sl32⟩)
    (c32 : PySem.W.codeIn K cd32 "BadIndex.__init__" = true)
    (k32 : PySem.W.keepIn K (.ref f32) = true)
    (a33 : PySem.W.nsIn K mainGlobals "law" = some (some (.ref f33)))
    (l33 : K.lookup f33 = some ⟨oc33, od33, .func (PySem.W.fnOf "law" "law" (defArgs s_law) (defBody s_law) (defScope s_law) .none kV33 dc33 pm33 an33 cd33 ct33), sl33⟩)
    (c33 : PySem.W.codeIn K cd33 "law" = true)
    (k33 : PySem.W.keepIn K (.ref f33) = true)
    (pg_Shape : PySem.W.plainGet K CS Str.empty = true)
    (hd_Shape : PySem.W.hasDictIn K CS = true)
    (po_Shape : PySem.W.plainOver K CS = true)
    (sa_Shape : PySem.W.findIn K (.ref CS) "__setattr__" = some (some (.builtin "object.__setattr__")))
    (mk_Shape : PySem.W.makesIn K CS = true)
    (kc_Shape : PySem.W.keepIn K (.ref CS) = true)
    (n_Shape_tables : PySem.W.findIn K (.ref CS) "tables" = some none)
    (pg_Store : PySem.W.plainGet K CT Str.empty = true)
    (hd_Store : PySem.W.hasDictIn K CT = true)
    (po_Store : PySem.W.plainOver K CT = true)
    (sa_Store : PySem.W.findIn K (.ref CT) "__setattr__" = some (some (.builtin "object.__setattr__")))
    (mk_Store : PySem.W.makesIn K CT = true)
    (kc_Store : PySem.W.keepIn K (.ref CT) = true)
    (n_Store_shape : PySem.W.findIn K (.ref CT) "shape" = some none)
    (n_Store__rows : PySem.W.findIn K (.ref CT) "_rows" = some none)
    (z_len : PySem.W.nsIn K mainGlobals "len" = some none)
    (z_list : PySem.W.nsIn K mainGlobals "list" = some none)
    (z_tuple : PySem.W.nsIn K mainGlobals "tuple" = some none)
    (z_isinstance : PySem.W.nsIn K mainGlobals "isinstance" = some none)
    (z_str : PySem.W.nsIn K mainGlobals "str" = some none)
    (z_dict : PySem.W.nsIn K mainGlobals "dict" = some none)
    (z_bool : PySem.W.nsIn K mainGlobals "bool" = some none)
    (z_int : PySem.W.nsIn K mainGlobals "int" = some none)
    (z_max : PySem.W.nsIn K mainGlobals "max" = some none)
    (z_all : PySem.W.nsIn K mainGlobals "all" = some none)
    (z_set : PySem.W.nsIn K mainGlobals "set" = some none)
    (z_range : PySem.W.nsIn K mainGlobals "range" = some none)
    (z_enumerate : PySem.W.nsIn K mainGlobals "enumerate" = some none)
    (z_min : PySem.W.nsIn K mainGlobals "min" = some none)
    (z_sum : PySem.W.nsIn K mainGlobals "sum" = some none)
    (g_LETTERS : PySem.W.nsIn K mainGlobals "LETTERS" = some (some (.str "abcdefghijklmnopqrstuvwxyz" tg0)))
    (g_LONGEST_NAME : PySem.W.nsIn K mainGlobals "LONGEST_NAME" = some (some (.int 8 tg1)))
    (g_MOST_TABLES : PySem.W.nsIn K mainGlobals "MOST_TABLES" = some (some (.int 5 tg2)))
    (g_MOST_FIELDS : PySem.W.nsIn K mainGlobals "MOST_FIELDS" = some (some (.int 4 tg3)))
    (g_LARGEST_VALUE : PySem.W.nsIn K mainGlobals "LARGEST_VALUE" = some (some (.int 1000000000 tg4)))
    (g_MOST_ROWS : PySem.W.nsIn K mainGlobals "MOST_ROWS" = some (some (.int 300 tg5)))
    (ccls : PySem.W.findIn K (.ref CS) "__class__" = some (some (.builtin "object.__class__")))
    (cget : PySem.W.specialIn K (.builtin "object.__class__") "__get__" = some (some (.builtin "getset_descriptor.__get__")))
    (ctak : PySem.W.takesIn K (.builtin "object.__class__") = some true)
    (cmro : PySem.W.mroIn K CS (.type "object") = some true)
    (cne : PySem.W.findIn K (.ref CS) "__ne__" = some (some (.builtin "object.__ne__")))
    (tcls : PySem.W.findIn K (.ref CT) "__class__" = some (some (.builtin "object.__class__")))
    (tmro : PySem.W.mroIn K CT (.type "object") = some true)
    (tne : PySem.W.findIn K (.ref CT) "__ne__" = some (some (.builtin "object.__ne__")))
    (ki_NoneType : PySem.W.kitOne K (.type "NoneType") (.ref CS) = some false)
    (ki_bool : PySem.W.kitOne K (.type "bool") (.ref CS) = some false)
    (ki_int : PySem.W.kitOne K (.type "int") (.ref CS) = some false)
    (ki_str : PySem.W.kitOne K (.type "str") (.ref CS) = some false)
    (ki_list : PySem.W.kitOne K (.type "list") (.ref CS) = some false)
    (ki_tuple : PySem.W.kitOne K (.type "tuple") (.ref CS) = some false)
    (ki_dict : PySem.W.kitOne K (.type "dict") (.ref CS) = some false)
    (nf_NoneType : PySem.W.notFirst K CS (.type "NoneType") = true)
    (nf_bool : PySem.W.notFirst K CS (.type "bool") = true)
    (nf_int : PySem.W.notFirst K CS (.type "int") = true)
    (nf_str : PySem.W.notFirst K CS (.type "str") = true)
    (nf_list : PySem.W.notFirst K CS (.type "list") = true)
    (nf_tuple : PySem.W.notFirst K CS (.type "tuple") = true)
    (nf_dict : PySem.W.notFirst K CS (.type "dict") = true)
    (errs : errsB K [(CB, "at"), (CN, "value"), (CR, "value"), (CI, "value")] [CM] = true) :
    ∃ fd : FuncData, (∀ (s : Shared) (v : Value), BindsTo s fd ⟨[v], []⟩ [("_law_script", v)]) ∧ ∀ base : Heap, K.In base → base.Ns mainGlobals mg → FnOk l.prog w K mg base CX0 46 fa fd ["_law_script"] (spLaw K) := by
  have e := hfa.symm.trans (PySem.W.mg_of X G a33)
  cases e
  have F0 := fun_mk (st := s_l_pick) l0 c0 k0
  have b0 := F0.binds (ps := ps_l_pick) fun _ _ _ _ _ _ us hl => match us, hl with | [_, _], _ => rfl
  have F1 := fun_mk (st := s_is_name) l1 c1 k1
  have b1 := F1.binds (ps := ps_is_name) fun _ _ _ _ _ _ us hl => match us, hl with | [_], _ => rfl
  have F2 := fun_mk (st := s_is_row) l2 c2 k2
  have b2 := F2.binds (ps := ps_is_row) fun _ _ _ _ _ _ us hl => match us, hl with | [_, _, _], _ => rfl
  have F3 := fun_mk (st := s_is_tuple) l3 c3 k3
  have b3 := F3.binds (ps := ps_is_tuple) fun _ _ _ _ _ _ us hl => match us, hl with | [_, _], _ => rfl
  have F4 := fun_mk (st := s_are_names) l4 c4 k4
  have b4 := F4.binds (ps := ps_are_names) fun _ _ _ _ _ _ us hl => match us, hl with | [_, _, _], _ => rfl
  have F5 := fun_mk (st := s_as_tuples) l5 c5 k5
  have b5 := F5.binds (ps := ps_as_tuples) fun _ _ _ _ _ _ us hl => match us, hl with | [_], _ => rfl
  have F6 := fun_mk (st := s_is_table) l6 c6 k6
  have b6 := F6.binds (ps := ps_is_table) fun _ _ _ _ _ _ us hl => match us, hl with | [_], _ => rfl
  have F7 := fun_mk (st := s_check_tables) l7 c7 k7
  have b7 := F7.binds (ps := ps_check_tables) fun _ _ _ _ _ _ us hl => match us, hl with | [_], _ => rfl
  have F8 := fun_mk (st := s_Shape_init) l8 c8 k8
  have b8 := F8.binds (ps := ps_Shape_init) fun _ _ _ _ _ _ us hl => match us, hl with | [_, _], _ => rfl
  have F9 := fun_mk (st := s_l_bag) l9 c9 k9
  have b9 := F9.binds (ps := ps_l_bag) fun _ _ _ _ _ _ us hl => match us, hl with | [_], _ => rfl
  have F10 := fun_mk (st := s_l_name) l10 c10 k10
  have b10 := F10.binds (ps := ps_l_name) fun _ _ _ _ _ _ us hl => match us, hl with | [_, _], _ => rfl
  have F11 := fun_mk (st := s_l_tables) l11 c11 k11
  have b11 := F11.binds (ps := ps_l_tables) fun _ _ _ _ _ _ us hl => match us, hl with | [_], _ => rfl
  have F12 := fun_mk (st := s_l_alike) l12 c12 k12
  have b12 := F12.binds (ps := ps_l_alike) fun _ _ _ _ _ _ us hl => match us, hl with | [_, _], _ => rfl
  have F13 := fun_mk (st := s_is_integer) l13 c13 k13
  have b13 := F13.binds (ps := ps_is_integer) fun _ _ _ _ _ _ us hl => match us, hl with | [_], _ => rfl
  have F14 := fun_mk (st := s_is_value) l14 c14 k14
  have b14 := F14.binds (ps := ps_is_value) fun _ _ _ _ _ _ us hl => match us, hl with | [_], _ => rfl
  have F15 := fun_mk (st := s_first_wrong_row) l15 c15 k15
  have b15 := F15.binds (ps := ps_first_wrong_row) fun _ _ _ _ _ _ us hl => match us, hl with | [_, _], _ => rfl
  have F16 := fun_mk (st := s_check_rows) l16 c16 k16
  have b16 := F16.binds (ps := ps_check_rows) fun _ _ _ _ _ _ us hl => match us, hl with | [_, _], _ => rfl
  have F17 := fun_mk (st := s_Store_init) l17 c17 k17
  have b17 := F17.binds (ps := ps_Store_init) fun _ _ _ _ _ _ us hl => match us, hl with | [_, _, _], _ => rfl
  have F18 := fun_mk (st := s_Shape_fields_of) l18 c18 k18
  have b18 := F18.binds (ps := ps_Shape_fields_of) fun _ _ _ _ _ _ us hl => match us, hl with | [_, _], _ => rfl
  have F19 := fun_mk (st := s_Store_rows_of) l19 c19 k19
  have b19 := F19.binds (ps := ps_Store_rows_of) fun _ _ _ _ _ _ us hl => match us, hl with | [_, _], _ => rfl
  have F20 := fun_mk (st := s_Store__with_rows) l20 c20 k20
  have b20 := F20.binds (ps := ps_Store__with_rows) fun _ _ _ _ _ _ us hl => match us, hl with | [_, _, _], _ => rfl
  have F21 := fun_mk (st := s_Store_with_row) l21 c21 k21
  have b21 := F21.binds (ps := ps_Store_with_row) fun _ _ _ _ _ _ us hl => match us, hl with | [_, _, _], _ => rfl
  have F22 := fun_mk (st := s_Store_without_row) l22 c22 k22
  have b22 := F22.binds (ps := ps_Store_without_row) fun _ _ _ _ _ _ us hl => match us, hl with | [_, _, _], _ => rfl
  have F23 := fun_mk (st := s_l_value) l23 c23 k23
  have b23 := F23.binds (ps := ps_l_value) fun _ _ _ _ _ _ us hl => match us, hl with | [_], _ => rfl
  have F24 := fun_mk (st := s_l_rows) l24 c24 k24
  have b24 := F24.binds (ps := ps_l_rows) fun _ _ _ _ _ _ us hl => match us, hl with | [_, _], _ => rfl
  have F25 := fun_mk (st := s_Shape_eq) l25 c25 k25
  have b25 := F25.binds (ps := ps_Shape_eq) fun _ _ _ _ _ _ us hl => match us, hl with | [_, _], _ => rfl
  have F26 := fun_mk (st := s_Store_eq) l26 c26 k26
  have b26 := F26.binds (ps := ps_Store_eq) fun _ _ _ _ _ _ us hl => match us, hl with | [_, _], _ => rfl
  have F27 := fun_mk (st := s_l_tells) l27 c27 k27
  have b27 := F27.binds (ps := ps_l_tells) fun _ _ _ _ _ _ us hl => match us, hl with | [_, _, _], _ => rfl
  have F28 := fun_mk (st := s_l_deed) l28 c28 k28
  have b28 := F28.binds (ps := ps_l_deed) fun _ _ _ _ _ _ us hl => match us, hl with | [_, _, _, _], _ => rfl
  have F29 := fun_mk (st := s_BadShape_init) l29 c29 k29
  have b29 := F29.binds (ps := ps_BadShape_init) fun _ _ _ _ _ _ us hl => match us, hl with | [_, _], _ => rfl
  have F30 := fun_mk (st := s_BadName_init) l30 c30 k30
  have b30 := F30.binds (ps := ps_BadName_init) fun _ _ _ _ _ _ us hl => match us, hl with | [_, _], _ => rfl
  have F31 := fun_mk (st := s_BadRows_init) l31 c31 k31
  have b31 := F31.binds (ps := ps_BadRows_init) fun _ _ _ _ _ _ us hl => match us, hl with | [_, _], _ => rfl
  have F32 := fun_mk (st := s_BadIndex_init) l32 c32 k32
  have b32 := F32.binds (ps := ps_BadIndex_init) fun _ _ _ _ _ _ us hl => match us, hl with | [_, _], _ => rfl
  have F33 := fun_mk (st := s_law) l33 c33 k33
  have b33 := F33.binds (ps := ps_law) fun _ _ _ _ _ _ us hl => match us, hl with | [_], _ => rfl
  refine ⟨PySem.W.fnOf "law" "law" (defArgs s_law) (defBody s_law) (defScope s_law) .none kV33 dc33 pm33 an33 cd33 ct33, fun s v => .of_eq rfl, fun base _ _ => ?_⟩
  obtain ⟨E_BadShape, nf_BadShape⟩ := errs_f errs (CB, "at") (by simp)
  obtain ⟨E_BadName, nf_BadName⟩ := errs_f errs (CN, "value") (by simp)
  obtain ⟨E_BadRows, nf_BadRows⟩ := errs_f errs (CR, "value") (by simp)
  obtain ⟨E_BadIndex, nf_BadIndex⟩ := errs_f errs (CI, "value") (by simp)
  obtain ⟨E_TooMany, xx_TooMany⟩ := errs_z errs CM (by simp)
  have X_BadShape : Xf l.prog w K mg base "BadShape" CB "at" := ⟨f29, _, ⟨⟨_, _, _, _, _, _, _, _, _, _, _, _, _, _, _, xL0, rfl⟩, E_BadShape.sa, E_BadShape.sb, E_BadShape.ty, E_BadShape.kp⟩, a29, t29, ok_BadShape F29, PySem.W.mg_of X G aC_BadShape, b29, kbn_one fun _ _ => rfl, nf_BadShape⟩
  have X_BadName : Xf l.prog w K mg base "BadName" CN "value" := ⟨f30, _, ⟨⟨_, _, _, _, _, _, _, _, _, _, _, _, _, _, _, xL1, rfl⟩, E_BadName.sa, E_BadName.sb, E_BadName.ty, E_BadName.kp⟩, a30, t30, ok_BadName F30, PySem.W.mg_of X G aC_BadName, b30, kbn_one fun _ _ => rfl, nf_BadName⟩
  have X_BadRows : Xf l.prog w K mg base "BadRows" CR "value" := ⟨f31, _, ⟨⟨_, _, _, _, _, _, _, _, _, _, _, _, _, _, _, xL2, rfl⟩, E_BadRows.sa, E_BadRows.sb, E_BadRows.ty, E_BadRows.kp⟩, a31, t31, ok_BadRows F31, PySem.W.mg_of X G aC_BadRows, b31, kbn_one fun _ _ => rfl, nf_BadRows⟩
  have X_BadIndex : Xf l.prog w K mg base "BadIndex" CI "value" := ⟨f32, _, ⟨⟨_, _, _, _, _, _, _, _, _, _, _, _, _, _, _, xL3, rfl⟩, E_BadIndex.sa, E_BadIndex.sb, E_BadIndex.ty, E_BadIndex.kp⟩, a32, t32, ok_BadIndex F32, PySem.W.mg_of X G aC_BadIndex, b32, kbn_one fun _ _ => rfl, nf_BadIndex⟩
  have X_TooMany : X0 K mg "TooMany" CM := ⟨_, _, _, _, PySem.F.excBase_ValueError, xx_TooMany, PySem.W.mg_of X G aC_TooMany, E_TooMany.kp, E_TooMany.sb, E_TooMany.ty⟩
  have T : Txt K mg CS := ⟨PySem.W.mg_none_of X G z_len, PySem.W.mg_none_of X G z_list, PySem.W.mg_none_of X G z_tuple, PySem.W.mg_none_of X G z_isinstance, PySem.W.mg_none_of X G z_str, PySem.W.mg_none_of X G z_dict, PySem.W.mg_none_of X G z_bool, PySem.W.mg_none_of X G z_int, PySem.W.mg_none_of X G z_max, PySem.W.mg_none_of X G z_all, PySem.W.mg_none_of X G z_set, PySem.W.mg_none_of X G z_range, PySem.W.mg_none_of X G z_enumerate, PySem.W.mg_none_of X G z_min, PySem.W.mg_none_of X G z_sum,
    ⟨_, PySem.W.mg_of X G g_LETTERS⟩, ⟨_, PySem.W.mg_of X G g_LONGEST_NAME⟩, ⟨_, PySem.W.mg_of X G g_MOST_TABLES⟩, ⟨_, PySem.W.mg_of X G g_MOST_FIELDS⟩, ⟨_, PySem.W.mg_of X G g_LARGEST_VALUE⟩, ⟨_, PySem.W.mg_of X G g_MOST_ROWS⟩,
    PySem.W.mg_of X G aC_Shape, ⟨pg_Shape, hd_Shape, po_Shape, sa_Shape⟩, n_Shape_tables, ccls, cget, ctak, cmro, cne,
    fun n hn => by
      simp only [List.mem_cons, List.mem_nil_iff, or_false] at hn
      rcases hn with rfl | rfl | rfl | rfl | rfl | rfl | rfl
      · exact ki_NoneType
      · exact ki_bool
      · exact ki_int
      · exact ki_str
      · exact ki_list
      · exact ki_tuple
      · exact ki_dict
    , fun n hn => by
      simp only [List.mem_cons, List.mem_nil_iff, or_false] at hn
      rcases hn with rfl | rfl | rfl | rfl | rfl | rfl | rfl
      · exact nf_NoneType
      · exact nf_bool
      · exact nf_int
      · exact nf_str
      · exact nf_list
      · exact nf_tuple
      · exact nf_dict
    ⟩
  have T2 : Tx2 K mg CT := ⟨PySem.W.mg_of X G aC_Store, ⟨pg_Store, hd_Store, po_Store, sa_Store⟩, n_Store_shape, n_Store__rows⟩
  have T3 : Tx3 K CT := ⟨tcls, tmro, tne⟩
  have R0 : Er K CR CI := ⟨PySem.W.exm_ref E_BadRows.sb E_BadRows.hd E_BadRows.ty (errs_s errs 2 2 (by show 2 < 5; decide) (by show 2 < 5; decide)),
    PySem.W.exm_ref E_BadIndex.sb E_BadIndex.hd E_BadIndex.ty (errs_s errs 3 3 (by show 3 < 5; decide) (by show 3 < 5; decide)),
    ⟨E_BadRows.ga, E_BadRows.gg, E_BadRows.sb, E_BadRows.hd⟩, nf_BadRows, ⟨E_BadIndex.ga, E_BadIndex.gg, E_BadIndex.sb, E_BadIndex.hd⟩, nf_BadIndex⟩
  have U1 : Df l.prog w K mg base "_law_bag" 1 ps_l_bag (spBag K) := ⟨f9, _, ok_l_bag F9 T, PySem.W.mg_of X G a9, k9, b9⟩
  have U2 : Df l.prog w K mg base "_law_pick" 1 ps_l_pick spPick := ⟨f0, _, ok_l_pick F0 T, PySem.W.mg_of X G a0, k0, b0⟩
  have U3 : Df l.prog w K mg base "_law_name" 2 ps_l_name spName := ⟨f10, _, ok_l_name F10 T U2, PySem.W.mg_of X G a10, k10, b10⟩
  have U4 : Df l.prog w K mg base "_law_tables" 3 ps_l_tables spTables := ⟨f11, _, ok_l_tables F11 T U2 U3, PySem.W.mg_of X G a11, k11, b11⟩
  have U5 : Df l.prog w K mg base "_law_value" 2 ps_l_value spValue := ⟨f23, _, ok_l_value F23 T U2, PySem.W.mg_of X G a23, k23, b23⟩
  have U6 : Df l.prog w K mg base "_law_rows" 3 ps_l_rows spRows := ⟨f24, _, ok_l_rows F24 T U2 U5, PySem.W.mg_of X G a24, k24, b24⟩
  have U7 : Df l.prog w K mg base "is_row" 1 ps_is_row (spIsRow K) := ⟨f2, _, ok_is_row F2 T, PySem.W.mg_of X G a2, k2, b2⟩
  have U8 : Df l.prog w K mg base "is_tuple" 1 ps_is_tuple (spIsTuple K) := ⟨f3, _, ok_is_tuple F3 T, PySem.W.mg_of X G a3, k3, b3⟩
  have U9 : Df l.prog w K mg base "is_name" 1 ps_is_name (spIsName K) := ⟨f1, _, ok_is_name F1 T, PySem.W.mg_of X G a1, k1, b1⟩
  have U10 : Df l.prog w K mg base "are_names" 2 ps_are_names (spAreNames K) := ⟨f4, _, ok_are_names F4 T U7 U9, PySem.W.mg_of X G a4, k4, b4⟩
  have U11 : Df l.prog w K mg base "is_table" 3 ps_is_table spIsTable := ⟨f6, _, ok_is_table F6 T U8 U9 U10, PySem.W.mg_of X G a6, k6, b6⟩
  have U12 : DfX l.prog w K mg base "check_tables" 4 ps_check_tables (spCheck CB) := ⟨f7, _, ok_check_tables F7 T X_BadShape U7 U11, PySem.W.mg_of X G a7, k7, b7⟩
  have U13 : Df l.prog w K mg base "as_tuples" 40 ps_as_tuples (spTup 40) := ⟨f5, _, ok_as_tuples F5 T (PySem.W.mg_of X G a5) b5 40, PySem.W.mg_of X G a5, k5, b5⟩
  have U14 : DcX l.prog w K mg base "Shape" CS 41 ps_Shape_init (spShInit CS CB) := ⟨f8, _, ok_Shape_init F8 T U12 U13, PySem.W.mg_of X G aC_Shape, ⟨mk_Shape, a8, i8, kc_Shape⟩, b8⟩
  have U15 : Df l.prog w K mg base "is_integer" 1 ps_is_integer spIsInt := ⟨f13, _, ok_is_integer F13 T, PySem.W.mg_of X G a13, k13, b13⟩
  have U16 : Df l.prog w K mg base "is_value" 2 ps_is_value spIsVal := ⟨f14, _, ok_is_value F14 T U15, PySem.W.mg_of X G a14, k14, b14⟩
  have U17 : Df l.prog w K mg base "first_wrong_row" 3 ps_first_wrong_row spFirst := ⟨f15, _, ok_first_wrong_row F15 T U7 U16, PySem.W.mg_of X G a15, k15, b15⟩
  have U18 : DfX l.prog w K mg base "check_rows" 4 ps_check_rows (spCheckR CS CR) := ⟨f16, _, ok_check_rows F16 T X_BadRows U17, PySem.W.mg_of X G a16, k16, b16⟩
  have U19 : DcX l.prog w K mg base "Store" CT 41 ps_Store_init (spStInit CS CT CR) := ⟨f17, _, ok_Store_init F17 T T2 X_TooMany U18 U13, PySem.W.mg_of X G aC_Store, ⟨mk_Store, a17, i17, kc_Store⟩, b17⟩
  have U20 : Df l.prog w K mg base "_law_alike" 40 ps_l_alike (spAlike 40) := ⟨f12, _, ok_l_alike F12 T (PySem.W.mg_of X G a12) b12 40, PySem.W.mg_of X G a12, k12, b12⟩
  have U21 : DmX l.prog w K mg base CS "fields_of" 3 ps_Shape_fields_of (spFieldsE CS CN) := ⟨f18, _, ok_Shape_fields_of F18 T X_BadName, ⟨a18, i18, k18⟩, b18⟩
  have U22 : DmX l.prog w K mg base CT "rows_of" 4 ps_Store_rows_of (spRowsOf CS CT CN) := ⟨f19, _, ok_Store_rows_of F19 T T2 U21, ⟨a19, i19, k19⟩, b19⟩
  have U23 : DmX l.prog w K mg base CT "_with_rows" 43 ps_Store__with_rows (spWithR CS CT CR) := ⟨f20, _, ok_Store_with F20 T T2 U19, ⟨a20, i20, k20⟩, b20⟩
  have U24 : DmX l.prog w K mg base CT "with_row" 44 ps_Store_with_row (spWithRow CS CT CR CN) := ⟨f21, _, ok_Store_with_row F21 T T2 U22 U23, ⟨a21, i21, k21⟩, b21⟩
  have U25 : DmX l.prog w K mg base CT "without_row" 44 ps_Store_without_row (spWithout CS CT CR CN CI) := ⟨f22, _, ok_Store_without_row F22 T T2 X_BadIndex U15 U22 U23, ⟨a22, i22, k22⟩, b22⟩
  have U26 : Df l.prog w K mg base "_law_deed" 45 ps_l_deed (spDeed CS CT) := ⟨f28, _, ok_l_deed F28 T T2 R0 X_BadRows X_BadIndex U2 U5 U20 U24 U25, PySem.W.mg_of X G a28, k28, b28⟩
  have U27 : Df l.prog w K mg base "_law_tells" 41 ps_l_tells (spTells CS CT) := ⟨f27, _, ok_l_tells F27 T T2 U22 U20, PySem.W.mg_of X G a27, k27, b27⟩
  have U28 : Deq l.prog w K mg base CS 1 ps_Shape_eq (spShSame CS) := ⟨f25, _, ok_Shape_eq F25 T, a25, i25, b25⟩
  have U29 : Deq l.prog w K mg base CT 2 ps_Store_eq (spStSame CS CT) := ⟨f26, _, ok_Store_eq F26 T T2 T3 U28, a26, i26, b26⟩
  exact ok_law F33 T T2 T3 U1 U2 U4 U6 U14 U19 U26 U27 U28 U29
theorem walk {l : PySem.W.OpenLaw} {q : Program} {loose : List Str} {XP : (Str → Option Value) → Heap → Prop} {YP : World → Heap → Prop} {d : DefRec} {K : Params → PySem.W.Frag} (hn : l.most = some 63) (hdf : d.params.defaults = [])
    (hY : ∀ (w : World) (h : Heap), YP w h → (K w.params).In h)
    (F : ∀ (w : World) (mg : Str → Option Value) (fa : Addr) (h : Heap), (K w.params).In h → h.Ns mainGlobals mg → mg d.name = some (.ref fa) →
      ∃ fd : FuncData, (∀ (s : Shared) (u : Value), BindsTo s fd ⟨[u], []⟩ [("_law_script", u)]) ∧ ∀ base : Heap, (K w.params).In base → base.Ns mainGlobals mg → FnOk l.prog w (K w.params) mg base CX0 46 fa fd ["_law_script"] (spLaw (K w.params))) :
    PySem.W.WalkO q loose XP YP l.row.toRowW d [] (fun f vs => PySem.call f vs) :=
  L2.walk_of (n := 63) (k := 46) (x := "_law_script") (CX := fun _ => CX0) (sp := fun w => spLaw (K w.params)) hn (by decide) hdf ⟨rfl, by decide, by decide⟩ hY F (fun _ _ a ns hl _ hS => ⟨a, ns, rfl, hS, hl, fun _ => rfl⟩) fun _ _ _ _ _ z => z
end Fm

/-! ## K06N -/
set_option Elab.async false
set_option maxRecDepth 100000
open PySem PySem.W PyProof.Rows in
set_option maxRecDepth 100000 in
set_option maxHeartbeats 0 in
theorem PySem.Challenge.cw_firstmet_k06_stores_histories_holds : PySem.Challenge.rw_firstmet_k06_stores_histories.Holds := by
  w_on; o_law; k_head; (case hw => w_witness2)
  k_fill
  refine Fm.walk (l := PySem.Challenge.rw_firstmet_k06_stores_histories) rfl rfl (fun w h Y => PySem.W.kIn_of Y) ?F
  case F =>
    intro w mg fa h KX G hmg
    refine' Fm.all_mk KX G hmg ?aC_Shape ?aC_Store ?aC_BadShape ?aC_BadName ?aC_BadRows ?aC_BadIndex ?aC_TooMany ?xL0 ?xL1 ?xL2 ?xL3 ?a0 ?l0 ?c0 ?k0 ?a1 ?l1 ?c1 ?k1 ?a2 ?l2 ?c2 ?k2 ?a3 ?l3 ?c3 ?k3 ?a4 ?l4 ?c4 ?k4 ?a5 ?l5 ?c5 ?k5 ?a6 ?l6 ?c6 ?k6 ?a7 ?l7 ?c7 ?k7 ?a8 ?i8 ?l8 ?c8 ?k8 ?a9 ?l9 ?c9 ?k9 ?a10 ?l10 ?c10 ?k10 ?a11 ?l11 ?c11 ?k11 ?a12 ?l12 ?c12 ?k12 ?a13 ?l13 ?c13 ?k13 ?a14 ?l14 ?c14 ?k14 ?a15 ?l15 ?c15 ?k15 ?a16 ?l16 ?c16 ?k16 ?a17 ?i17 ?l17 ?c17 ?k17 ?a18 ?i18 ?l18 ?c18 ?k18 ?a19 ?i19 ?l19 ?c19 ?k19 ?a20 ?i20 ?l20 ?c20 ?k20 ?a21 ?i21 ?l21 ?c21 ?k21 ?a22 ?i22 ?l22 ?c22 ?k22 ?a23 ?l23 ?c23 ?k23 ?a24 ?l24 ?c24 ?k24 ?a25 ?i25 ?l25 ?c25 ?k25 ?a26 ?i26 ?l26 ?c26 ?k26 ?a27 ?l27 ?c27 ?k27 ?a28 ?l28 ?c28 ?k28 ?a29 ?t29 ?l29 ?c29 ?k29 ?a30 ?t30 ?l30 ?c30 ?k30 ?a31 ?t31 ?l31 ?c31 ?k31 ?a32 ?t32 ?l32 ?c32 ?k32 ?a33 ?l33 ?c33 ?k33 ?pg_Shape ?hd_Shape ?po_Shape ?sa_Shape ?mk_Shape ?kc_Shape ?n_Shape_tables ?pg_Store ?hd_Store ?po_Store ?sa_Store ?mk_Store ?kc_Store ?n_Store_shape ?n_Store__rows ?z_len ?z_list ?z_tuple ?z_isinstance ?z_str ?z_dict ?z_bool ?z_int ?z_max ?z_all ?z_set ?z_range ?z_enumerate ?z_min ?z_sum ?g_LETTERS ?g_LONGEST_NAME ?g_MOST_TABLES ?g_MOST_FIELDS ?g_LARGEST_VALUE ?g_MOST_ROWS ?ccls ?cget ?ctak ?cmro ?cne ?tcls ?tmro ?tne ?ki_NoneType ?ki_bool ?ki_int ?ki_str ?ki_list ?ki_tuple ?ki_dict ?nf_NoneType ?nf_bool ?nf_int ?nf_str ?nf_list ?nf_tuple ?nf_dict ?errs
    (case aC_Shape => k_is)
    (case aC_Store => k_is)
    (case aC_BadShape => k_is)
    (case aC_BadName => k_is)
    (case aC_BadRows => k_is)
    (case aC_BadIndex => k_is)
    (case aC_TooMany => k_is)
    (case xL0 => k_is)
    (case xL1 => k_is)
    (case xL2 => k_is)
    (case xL3 => k_is)
    (case a0 => k_is)
    (case l0 => k_is)
    (case c0 => k_is)
    (case k0 => k_is)
    (case a1 => k_is)
    (case l1 => k_is)
    (case c1 => k_is)
    (case k1 => k_is)
    (case a2 => k_is)
    (case l2 => k_is)
    (case c2 => k_is)
    (case k2 => k_is)
    (case a3 => k_is)
    (case l3 => k_is)
    (case c3 => k_is)
    (case k3 => k_is)
    (case a4 => k_is)
    (case l4 => k_is)
    (case c4 => k_is)
    (case k4 => k_is)
    (case a5 => k_is)
    (case l5 => k_is)
    (case c5 => k_is)
    (case k5 => k_is)
    (case a6 => k_is)
    (case l6 => k_is)
    (case c6 => k_is)
    (case k6 => k_is)
    (case a7 => k_is)
    (case l7 => k_is)
    (case c7 => k_is)
    (case k7 => k_is)
    (case a8 => k_is)
    (case i8 => k_is)
    (case l8 => k_is)
    (case c8 => k_is)
    (case k8 => k_is)
    (case a9 => k_is)
    (case l9 => k_is)
    (case c9 => k_is)
    (case k9 => k_is)
    (case a10 => k_is)
    (case l10 => k_is)
    (case c10 => k_is)
    (case k10 => k_is)
    (case a11 => k_is)
    (case l11 => k_is)
    (case c11 => k_is)
    (case k11 => k_is)
    (case a12 => k_is)
    (case l12 => k_is)
    (case c12 => k_is)
    (case k12 => k_is)
    (case a13 => k_is)
    (case l13 => k_is)
    (case c13 => k_is)
    (case k13 => k_is)
    (case a14 => k_is)
    (case l14 => k_is)
    (case c14 => k_is)
    (case k14 => k_is)
    (case a15 => k_is)
    (case l15 => k_is)
    (case c15 => k_is)
    (case k15 => k_is)
    (case a16 => k_is)
    (case l16 => k_is)
    (case c16 => k_is)
    (case k16 => k_is)
    (case a17 => k_is)
    (case i17 => k_is)
    (case l17 => k_is)
    (case c17 => k_is)
    (case k17 => k_is)
    (case a18 => k_is)
    (case i18 => k_is)
    (case l18 => k_is)
    (case c18 => k_is)
    (case k18 => k_is)
    (case a19 => k_is)
    (case i19 => k_is)
    (case l19 => k_is)
    (case c19 => k_is)
    (case k19 => k_is)
    (case a20 => k_is)
    (case i20 => k_is)
    (case l20 => k_is)
    (case c20 => k_is)
    (case k20 => k_is)
    (case a21 => k_is)
    (case i21 => k_is)
    (case l21 => k_is)
    (case c21 => k_is)
    (case k21 => k_is)
    (case a22 => k_is)
    (case i22 => k_is)
    (case l22 => k_is)
    (case c22 => k_is)
    (case k22 => k_is)
    (case a23 => k_is)
    (case l23 => k_is)
    (case c23 => k_is)
    (case k23 => k_is)
    (case a24 => k_is)
    (case l24 => k_is)
    (case c24 => k_is)
    (case k24 => k_is)
    (case a25 => k_is)
    (case i25 => k_is)
    (case l25 => k_is)
    (case c25 => k_is)
    (case k25 => k_is)
    (case a26 => k_is)
    (case i26 => k_is)
    (case l26 => k_is)
    (case c26 => k_is)
    (case k26 => k_is)
    (case a27 => k_is)
    (case l27 => k_is)
    (case c27 => k_is)
    (case k27 => k_is)
    (case a28 => k_is)
    (case l28 => k_is)
    (case c28 => k_is)
    (case k28 => k_is)
    (case a29 => k_is)
    (case t29 => k_is)
    (case l29 => k_is)
    (case c29 => k_is)
    (case k29 => k_is)
    (case a30 => k_is)
    (case t30 => k_is)
    (case l30 => k_is)
    (case c30 => k_is)
    (case k30 => k_is)
    (case a31 => k_is)
    (case t31 => k_is)
    (case l31 => k_is)
    (case c31 => k_is)
    (case k31 => k_is)
    (case a32 => k_is)
    (case t32 => k_is)
    (case l32 => k_is)
    (case c32 => k_is)
    (case k32 => k_is)
    (case a33 => k_is)
    (case l33 => k_is)
    (case c33 => k_is)
    (case k33 => k_is)
    (case pg_Shape => k_is)
    (case hd_Shape => k_is)
    (case po_Shape => k_is)
    (case sa_Shape => k_is)
    (case mk_Shape => k_is)
    (case kc_Shape => k_is)
    (case n_Shape_tables => k_is)
    (case pg_Store => k_is)
    (case hd_Store => k_is)
    (case po_Store => k_is)
    (case sa_Store => k_is)
    (case mk_Store => k_is)
    (case kc_Store => k_is)
    (case n_Store_shape => k_is)
    (case n_Store__rows => k_is)
    (case z_len => k_is)
    (case z_list => k_is)
    (case z_tuple => k_is)
    (case z_isinstance => k_is)
    (case z_str => k_is)
    (case z_dict => k_is)
    (case z_bool => k_is)
    (case z_int => k_is)
    (case z_max => k_is)
    (case z_all => k_is)
    (case z_set => k_is)
    (case z_range => k_is)
    (case z_enumerate => k_is)
    (case z_min => k_is)
    (case z_sum => k_is)
    (case g_LETTERS => k_is)
    (case g_LONGEST_NAME => k_is)
    (case g_MOST_TABLES => k_is)
    (case g_MOST_FIELDS => k_is)
    (case g_LARGEST_VALUE => k_is)
    (case g_MOST_ROWS => k_is)
    (case ccls => k_is)
    (case cget => k_is)
    (case ctak => k_is)
    (case cmro => k_is)
    (case cne => k_is)
    (case tcls => k_is)
    (case tmro => k_is)
    (case tne => k_is)
    (case ki_NoneType => kit_is)
    (case ki_bool => kit_is)
    (case ki_int => kit_is)
    (case ki_str => kit_is)
    (case ki_list => kit_is)
    (case ki_tuple => kit_is)
    (case ki_dict => kit_is)
    (case nf_NoneType => k_is)
    (case nf_bool => k_is)
    (case nf_int => k_is)
    (case nf_str => k_is)
    (case nf_list => k_is)
    (case nf_tuple => k_is)
    (case nf_dict => k_is)
    (case errs => kernel_rfl)
