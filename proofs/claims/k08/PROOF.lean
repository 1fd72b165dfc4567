import PyProof.Rows.All
import Wide.All
import OpenK.AllK
import Wide.FinOn
import HandS.ForMost
import HandS.IsInst
import HandS.TupAny
import HandS.Strs
import HandS.OwnEq
import HandS.Flow
import HandS.Evl
import HandS.Zip0
import HandS.Walk
import PyProof.Draws
import PyProof.EnumMake
import PyProof.InstNe
import HandS.TupMul
import HandS.Exc
import HandS.ExcIs
import HandS.ExcField
import HandS.ExcInit
import HandS.Small
import HandS.Defaults
import HandS.MakeKwOnly
import HandS.ExcOwn
import HandS.WordsExc
import HandS.DictEq
import PyProof.NeKinds
import HandS.More
import HandS.Star
import HandS.DictComp
import HandS.TryMany
import HandS.HeadHook3
import PySem.Challenge.RW_firstmet_k08_blocks
/-! ## FmBase -/
set_option Elab.async false
set_option maxRecDepth 100000
/-! What all of our laws share: how a def of the text is called, heaps that grow, the bag of the drawn numbers. -/
namespace Fm
open PySem L2
/-! ### calls -/
/-- the module's name x is a def that keeps the promise sp -/
structure Df (P : Program) (w : World) (K : PySem.W.Frag) (mg : Str → Option Value) (base : Heap) (x : Str) (k : Nat) (ps : List Str) (sp : Sp) : Prop where
  ex : ∃ (f : Addr) (fd : FuncData), FnOk P w K mg base CX0 k f fd ps sp ∧ mg x = some (.ref f) ∧ PySem.W.keepIn K (.ref f) = true ∧ Binds K fd ps []
/-- the method m of the class at C -/
structure Dm (P : Program) (w : World) (K : PySem.W.Frag) (mg : Str → Option Value) (base : Heap) (C : Addr) (m : Str) (k : Nat) (ps : List Str) (sp : Sp) : Prop where
  ex : ∃ (f : Addr) (fd : FuncData), FnOk P w K mg base CX0 k f fd ps sp ∧ Meth K C m f ∧ Binds K fd ps []
/-- the class at C, by its __init__ -/
structure Dc (P : Program) (w : World) (K : PySem.W.Frag) (mg : Str → Option Value) (base : Heap) (x : Str) (C : Addr) (k : Nat) (ps : List Str) (sp : Sp) : Prop where
  ex : ∃ (f : Addr) (fd : FuncData), FnOk P w K mg base CX0 k f fd ps sp ∧ mg x = some (.ref C) ∧ Mk K C f ∧ Binds K fd ps []
section
variable {X : Cx} {k : Nat} {ps : List Str} {sp : Sp} {x m : Str} {e o : Expr} {es : List Expr} {t : TA} {to : TE} {C : Addr} {p apos pos : Pos}
theorem pe_d (D : Df X.prog X.w X.K X.mg X.base x k ps sp) (hr : Room k X.A) (ha : PA X (e :: es) t) (hg : Gl X x := by rfl) (hdb : (x == ("__debug__" : Str)) = false := by decide)
    (he : starEach (e :: es) X.env = (false, eval e X.env) :: starEach es X.env := by rfl) (hpl : (backTo pos (starEach es X.env)).any (·.1) = false := by rfl) : PE X (.Call (.Name x p) (e :: es) [] pos) (tCall sp [] E0 t) := by
  obtain ⟨f, fd, F, hm, hk, hb⟩ := D.ex
  exact pe_call F hr hg hm hk hb .nil pass0 ha hdb he hpl
theorem pe_dc (D : Dc X.prog X.w X.K X.mg X.base x C k ps sp) (hr : Room (k + 1) X.A) (ha : PA X (e :: es) t) (hg : Gl X x := by rfl) (hdb : (x == ("__debug__" : Str)) = false := by decide)
    (he : starEach (e :: es) X.env = (false, eval e X.env) :: starEach es X.env := by rfl) (hpl : (backTo pos (starEach es X.env)).any (·.1) = false := by rfl) : PE X (.Call (.Name x p) (e :: es) [] pos) (tMake C sp [] E0 t) := by
  obtain ⟨f, fd, F, hm, M, hb⟩ := D.ex
  exact pe_make M F hr hg hm hb .nil pass0 ha hdb he hpl
theorem pe_dm {pl : Sem Bool} (he : PE X o to) (c : Cls X.K C) (D : Dm X.prog X.w X.K X.mg X.base C m k ps sp) (hr : Room k X.A) (ha : PA X (e :: es) t)
    (hst : starEach (e :: es) X.env = (false, eval e X.env) :: starEach es X.env := by rfl) (hpl : (backTo pos (starEach es X.env)).any (·.1) = false := by rfl)
    (ht : eval (.Call (.Attribute o m apos) (e :: es) [] pos) X.env = (do
      let ov ← eval o X.env
      standAt apos.atName
      let (f, first) ← holding [ov] (getMethod ov m pl)
      callWith pos f first (backTo pos (starEach (e :: es) X.env)) (backToKw pos (keywordEach [] X.env))) := by rfl) : PE X (.Call (.Attribute o m apos) (e :: es) [] pos) (tMeth C m sp [] E0 to t) := by
  obtain ⟨f, fd, F, hm, hb⟩ := D.ex
  exact pe_meth he c hm F hr hb .nil pass0 ha hst hpl ht
end
section
variable {X : Cx} {x : Str} {pos : Pos}
theorem pe_gI {n : Int} (h : ∃ t, X.mg x = some (.int n t)) (hg : Gl X x := by rfl) (hd : (x == ("__debug__" : Str)) = false := by decide) : PE X (.Name x pos) (tC (.int n)) := by
  obtain ⟨t, e⟩ := h
  exact pe_glob hg e ⟨t, rfl⟩ hd
theorem pe_gS {z : Str} (h : ∃ t, X.mg x = some (.str z t)) (hg : Gl X x := by rfl) (hd : (x == ("__debug__" : Str)) = false := by decide) : PE X (.Name x pos) (tC (.str z)) := by
  obtain ⟨t, e⟩ := h
  exact pe_glob hg e ⟨t, rfl⟩ hd
end
/-! ### tests -/
theorem ifd {p A B : Prop} [Decidable p] (h1 : p → A) (h2 : ¬ p → B) : if decide p = true then A else B := by
  by_cases h : p
  · rw [if_pos (decide_eq_true h)]
    exact h1 h
  · rw [if_neg (by rw [decide_eq_false h]; exact Bool.false_ne_true)]
    exact h2 h
theorem ifn {p A B : Prop} [Decidable p] (h1 : ¬ p → A) (h2 : p → B) : if (!decide p) = true then A else B := by
  by_cases h : p
  · rw [if_neg (by rw [decide_eq_true h]; exact Bool.false_ne_true)]
    exact h2 h
  · rw [if_pos (by rw [decide_eq_false h]; rfl)]
    exact h1 h
theorem intV {i j : Int} (h : V.int i = V.int j) : i = j := V.int.inj h
/-! ### heaps that grow: F is the part that is spoken of, the rest of H stays -/
structure Grow (F H F' H' : Hp) : Prop where
  ff : Same F F'
  fh : Same F' H'
  hh : ∀ a o, F a = none → H a = some o → F' a = none ∧ H' a = some o
theorem Grow.refl {F H : Hp} (s : Same F H) : Grow F H F H := ⟨Same.refl _, s, fun _ _ a b => ⟨a, b⟩⟩
theorem Grow.same {F H F' H' : Hp} (s : Same F H) (g : Grow F H F' H') : Same H H' := fun a o e => by
  cases q : F a with
  | none => exact (g.hh a o q e).2
  | some u =>
    have z := s a u q
    rw [e] at z
    cases z
    exact g.fh _ _ (g.ff _ _ q)
theorem Grow.trans {F H F1 H1 F2 H2 : Hp} (a : Grow F H F1 H1) (b : Grow F1 H1 F2 H2) : Grow F H F2 H2 :=
  ⟨a.ff.trans b.ff, b.fh, fun c o h1 h2 => let ⟨z1, z2⟩ := a.hh c o h1 h2; b.hh c o z1 z2⟩
theorem same_upd {F H : Hp} (s : Same F H) (p : Addr) (o : HO) : Same (upd F p o) (upd H p o) := fun a u e => by
  by_cases h : a = p
  · subst h
    rw [upd_same] at e ⊢
    exact e
  · rw [upd_ne h] at e ⊢
    exact s a u e
theorem Grow.new {F H : Hp} (s : Same F H) {p : Addr} (o : HO) (hp : H p = none) : Grow F H (upd F p o) (upd H p o) :=
  ⟨fun a u e => by rw [upd_ne (ne_of_none e (s.free hp))]; exact e, same_upd s p o, fun a u e1 e2 => by
    have n := ne_of_none e2 hp
    rw [upd_ne n, upd_ne n]
    exact ⟨e1, e2⟩⟩
theorem same_upd1 {F H : Hp} (s : Same F H) {p : Addr} (o : HO) (hp : H p = none) : Same F (L2.upd H p o) := fun a u e => by
  rw [upd_ne (ne_of_none (s a u e) hp)]
  exact s a u e
theorem same_new {H : Hp} {p : Addr} (o : HO) (hp : H p = none) : Same H (upd H p o) := same_upd1 (Same.refl H) o hp
theorem same_put {H H' : Hp} (s : Same H H') {D : Addr} (o : HO) (hD : H D = none) : Same H (upd H' D o) := fun a u e => by
  have n : a ≠ D := ne_of_none e hD
  rw [upd_ne n]
  exact s a u e
theorem map_take {α β : Type} {xs : List α} {i : Nat} {c : α} (f : α → β) (h : xs[i]? = some c) : (xs.take (i + 1)).map f = (xs.take i).map f ++ [f c] := by
  rw [List.take_add_one, h, List.map_append]
  rfl
theorem take_lt {α β : Type} {xs : List α} {i : Nat} (f : α → β) (h : xs.length ≤ 100000) : ((xs.take i).map f).length < sizeLine := by
  rw [List.length_map, List.length_take]
  exact Nat.lt_of_le_of_lt (Nat.le_trans (Nat.min_le_right _ _) h) (by decide)
/-! ### the bag -/
structure Bag (F H : Hp) (b : Addr) : Prop where
  fh : Same F H
  fb : F b = none
  ex : ∃ (cl : Addr) (ns : List Int) (p g s c h : Int), F cl = none ∧ cl ≠ b ∧ H cl = some (.lst (ns.map V.int)) ∧ H b = some (.lst [.ref cl, .int p, .int g, .int s, .int c, .int h]) ∧ 0 ≤ p ∧ 0 ≤ g ∧ 0 ≤ s ∧ s < 2147483647
theorem Bag.grow {F H F' H' : Hp} {b : Addr} (B : Bag F H b) (g : Grow F H F' H') : Bag F' H' b := by
  obtain ⟨s, fb, cl, ns, p, gg, z, c, h, e1, e2, e3, e4, r⟩ := B
  obtain ⟨z1, z2⟩ := g.hh _ _ e1 e3
  obtain ⟨y1, y2⟩ := g.hh _ _ fb e4
  exact ⟨g.fh, y1, cl, ns, p, gg, z, c, h, z1, e2, z2, y2, r⟩
theorem Bag.new {F H : Hp} {b p : Addr} (B : Bag F H b) (o : HO) (hp : H p = none) : Bag (upd F p o) (upd H p o) b := B.grow (Grow.new B.fh o hp)
theorem Bag.put {F H : Hp} {b l : Addr} {o : HO} (B : Bag F H b) (o' : HO) (hl : F l = some o) : Bag (upd F l o') (upd H l o') b := by
  obtain ⟨s, fb, cl, ns, p, g, z, c, h, e1, e2, e3, e4, r⟩ := B
  have n1 : b ≠ l := fun q => by rw [q, hl] at fb; cases fb
  have n2 : cl ≠ l := fun q => by rw [q, hl] at e1; cases e1
  exact ⟨same_upd s l o', by rw [upd_ne n1]; exact fb, cl, ns, p, g, z, c, h, by rw [upd_ne n2]; exact e1, e2, by rw [upd_ne n2]; exact e3, by rw [upd_ne n1]; exact e4, r⟩
theorem Bag.ne {F H : Hp} {b l : Addr} {o : HO} (B : Bag F H b) (hl : F l = some o) : l ≠ b := fun q => by
  have z := B.fb
  rw [← q, hl] at z
  cases z
/-- what _law_pick(bag, many) gives: some number below many -/
def spPick : Sp := fun vs H Q _ => ∃ (F : Hp) (b : Addr) (m : Int), vs = [.ref b, .int m] ∧ 0 < m ∧ m < 1073741824 ∧ Bag F H b ∧ ∀ (r : Int) (H' : Hp), 0 ≤ r → r < m → Bag F H' b → Q (.int r) H'
theorem fmod_lo {a m : Int} (h : 0 < m) : 0 ≤ a.fmod m := Int.fmod_nonneg_of_pos a h
theorem fmod_hi {a m : Int} (h : 0 < m) : a.fmod m < m := Int.fmod_lt_of_pos a h
theorem fmod64 (x : Int) {m : Int} (h : 0 < m) (h2 : m < 4294967296) : -(2 ^ 64) < x.fmod m ∧ x.fmod m < 2 ^ 64 := by
  have a := fmod_lo (a := x) h
  have b := fmod_hi (a := x) h
  omega
theorem fdiv_lo {a m : Int} (ha : 0 ≤ a) (h : 0 < m) : 0 ≤ a.fdiv m := by
  rw [Int.fdiv_eq_ediv_of_nonneg _ (Int.le_of_lt h)]
  exact Int.ediv_nonneg ha (Int.le_of_lt h)
theorem fdiv_hi {a m : Int} (ha : 0 ≤ a) (h : 0 < m) : a.fdiv m ≤ a := by
  rw [Int.fdiv_eq_ediv_of_nonneg _ (Int.le_of_lt h)]
  exact Int.ediv_le_self _ ha
end Fm

/-! ## FmSet -/
set_option Elab.async false
set_option maxRecDepth 100000
set_option maxHeartbeats 8000000
/-! The size of a set that is made of a row of texts, whatever texts they are. -/
namespace Fm
open PySem L2 PyProof.Rows PySem.Spec
/-- how many unlike texts, the last one first -/
def disR : List Str → Nat
  | [] => 0
  | x :: r => if x ∈ r then disR r else disR r + 1
def dis (xs : List Str) : Nat := disR xs.reverse
theorem disR_le : ∀ r : List Str, disR r ≤ r.length
  | [] => Nat.le_refl _
  | x :: r => by
    have ih := disR_le r
    unfold disR
    split
    · exact Nat.le_succ_of_le ih
    · exact Nat.succ_le_succ ih
theorem disR_full : ∀ r : List Str, disR r = r.length ↔ r.Nodup
  | [] => ⟨fun _ => .nil, fun _ => rfl⟩
  | x :: r => by
    have ih := disR_full r
    have le := disR_le r
    unfold disR
    rw [List.nodup_cons]
    split
    · rename_i h
      constructor
      · intro e
        rw [List.length_cons] at e
        omega
      · intro e
        exact absurd h e.1
    · rename_i h
      rw [List.length_cons]
      constructor
      · intro e
        exact ⟨h, ih.mp (by omega)⟩
      · intro e
        rw [ih.mpr e.2]
theorem dis_le (xs : List Str) : dis xs ≤ xs.length := by
  have h := disR_le xs.reverse
  rw [List.length_reverse] at h
  exact h
theorem dis_full (xs : List Str) : dis xs = xs.length ↔ xs.Nodup := by
  have h := disR_full xs.reverse
  rw [List.length_reverse] at h
  refine h.trans ?_
  show List.Pairwise (· ≠ ·) xs.reverse ↔ List.Pairwise (· ≠ ·) xs
  rw [List.pairwise_reverse]
  exact ⟨fun z => z.imp Ne.symm, fun z => z.imp Ne.symm⟩
theorem dis_take {xs : List Str} {i : Nat} {x : Str} (h : xs[i]? = some x) : dis (xs.take (i + 1)) = if x ∈ xs.take i then dis (xs.take i) else dis (xs.take i) + 1 := by
  have e : xs.take (i + 1) = xs.take i ++ [x] := by
    rw [List.take_add_one, h]
    rfl
  unfold dis
  rw [e, List.reverse_append]
  show (if x ∈ (xs.take i).reverse then _ else _) = _
  by_cases m : x ∈ xs.take i
  · rw [if_pos m, if_pos (List.mem_reverse.mpr m)]
    rfl
  · rw [if_neg m, if_neg fun z => m (List.mem_reverse.mp z)]
    rfl
abbrev among (l : List Str) : Str → Bool := fun k => l.any (· == k)
theorem among_mem {l : List Str} {x : Str} : among l x = true ↔ x ∈ l := by
  show l.any (· == x) = true ↔ x ∈ l
  rw [List.any_eq_true]
  constructor
  · rintro ⟨y, hy, e⟩
    rw [← eq_of_beq e]
    exact hy
  · intro h
    exact ⟨x, h, beq_self_eq_true x⟩
theorem among_take {xs : List Str} {i : Nat} {x : Str} (h : xs[i]? = some x) (k : Str) : (among (xs.take i) k || decide (k = x)) = among (xs.take (i + 1)) k := by
  have e : xs.take (i + 1) = xs.take i ++ [x] := by
    rw [List.take_add_one, h]
    rfl
  show _ = (xs.take (i + 1)).any (· == k)
  rw [e, List.any_append]
  by_cases q : k = x
  · subst q
    simp
  · have q' : (x == k) = false := by simpa using fun z : x = k => q z.symm
    simp [q, q']
section
variable {prog : Program} {w : World} {A : Around} {R : Result → Shared → Prop} {I : Addr} {fp wr : List Addr} {G : Array GenState → Array GenState → Prop} {n : Nat} {Pz : Nat → Value → Prop} {St : Nat → Shared → Prop}
/-- the loop that fills a set: behind i items it holds those items -/
theorem fill_strs (W : WalksS prog w A.in1 I fp wr G n Pz St) (S : Addr) (hS : S ∉ fp) (xs : List Str) (hn : xs.length = n) (hb : n + 1 < scanBound) (hv : ∀ i v, Pz i v → ∃ t x, v = .str x t ∧ xs[i]? = some x) :
    ∀ (k i : Nat) (s : Shared), n - i = k → i ≤ n → St i s → s.heap.SetOf (PySem.strKind prog w) S (among (xs.take i)) (dis (xs.take i)) →
      (∀ s', Moved (S :: wr) G s s' → s'.heap.SetOf (PySem.strKind prog w) S (among xs) (dis xs) → R (.ok (.ret .none)) s') →
      codeAny (model prog w) A (.builtin "set.update.loop" ⟨[.ref S, .ref I], []⟩) R s := by
  have out : S ∉ wr := fun z => hS (W.sub _ z)
  have more : ∀ b ∈ wr, b ∈ S :: wr := fun b z => List.mem_cons_of_mem _ z
  intro k
  induction k with
  | zero =>
    intro i s e0 le st set fin
    obtain rfl : i = n := by omega
    refine codeAny_builtin F.entry_set_update_loop ?_
    rw [Around.under_plainId F.plain_set_update_loop _]
    show wpAny _ A.in1 (pyNext (.ref I) >>= _) _ _ s
    refine wpAny_bind (W.done s _ _ st fun s' mv => ?_)
    show wpAny _ A.in1 (ret Value.none) _ _ s'
    refine wpAny_pure (fin s' (mv.mono more) ?_)
    obtain ⟨o, es, ep, t, ho, rest⟩ := set
    rw [← hn, List.take_length] at rest
    exact ⟨o, es, ep, t, mv.heap S _ out ho, rest⟩
  | succ k ih =>
    intro i s e0 le st set fin
    have lt : i < n := by omega
    refine codeAny_builtin F.entry_set_update_loop ?_
    rw [Around.under_plainId F.plain_set_update_loop _]
    show wpAny _ A.in1 (pyNext (.ref I) >>= _) _ _ s
    refine wpAny_bind (W.item i s _ _ lt st fun v s' pv st' mv => ?_)
    obtain ⟨t, x, rfl, hx⟩ := hv i v pv
    have set' : s'.heap.SetOf (PySem.strKind prog w) S (among (xs.take i)) (dis (xs.take i)) := by
      obtain ⟨o, es, ep, tb, ho, rest⟩ := set
      exact ⟨o, es, ep, tb, mv.heap S _ out ho, rest⟩
    show wpAny _ A.in1 (holding [Value.str x t] (setAdd S (.str x t)) >>= _) _ _ s'
    refine wpAny_bind (wpAny_holding ?_)
    unfold setAdd
    refine wpAny_holding ?_
    refine wpAny_bind ((PySem.strKind prog w).pyHash (k := x) (strKind_is _ _ _ _) ?_)
    have small : dis (xs.take i) + 1 < scanBound := by
      have z := dis_le (xs.take i)
      rw [List.length_take] at z
      omega
    refine wpAny_setAddHashed_of (knd := PySem.strKind prog w) (s := { s' with toks := s'.toks + 1 }) (strKind_is _ _ _ _) rfl set' small fun h' sb set2 => ?_
    have set3 : h'.SetOf (PySem.strKind prog w) S (among (xs.take (i + 1))) (dis (xs.take (i + 1))) := by
      refine SetOf_congr set2 (fun k' => among_take hx k') ?_
      rw [dis_take hx]
      by_cases m : x ∈ xs.take i
      · rw [if_pos m, if_pos (among_mem.mpr m)]
      · rw [if_neg m, if_neg fun z => m (among_mem.mp z)]
    refine wpAny_pure ⟨plainId_quiet F.plain_set_update_loop _, ih (i + 1) _ (by omega) lt (W.frame _ s' _ _ st' (Nat.le_succ _) fun b hb o e => ?_) set3 fun s3 mv3 done => ?_⟩
    · rw [sb.2 b fun z : b = S => hS (by rw [← z]; exact hb)]
      exact e
    · refine fin s3 (Moved.trans W.gtrans ((mv.mono more).then_heap (Nat.le_succ _) fun b o hb e => ?_) mv3) done
      rw [sb.2 b fun z : b = S => hb (by rw [z]; exact List.mem_cons_self)]
      exact e
end
def newSet (led : Bool) : Obj := { cls := .type "set", dict := none, data := .set #[] 0 (.fresh 0 0 led) }
section
variable {prog : Program} {w : World} {A : Around} {E : Value → Shared → Prop} {s : Shared}
set_option maxHeartbeats 16000000 in
/-- set(xs), xs a list of texts -/
theorem set_of_list {l : Addr} {items : Array Value} {xs : List Str} {Q : Value → Shared → Prop} (hh : A.handled = none) (hl : s.heap.IsList l items) (hi : StrsAre items.toList xs) (hn : xs.length + 1 < scanBound)
    (k : ∀ (h' : Heap) (tk : Nat), h'.SetOf (PySem.strKind prog w) s.heap.objs.size (among xs) (dis xs) → (∀ b o, b < s.heap.objs.size → s.heap.get? b = some o → h'.get? b = some o) → Q (.ref s.heap.objs.size) { s with heap := h', toks := tk }) :
    wpAny (model prog w) A (call (.type "set") [.ref l]) Q E s := by
  obtain ⟨cc, tl, mro⟩ := PySem.F.called_set.mro
  have made := PySem.F.called_set.made
  have isub := PySem.F.called_set.sub
  refine wpAny_call (codeAny_of_tree ?_)
  show wpAny _ _ (callAny (.type "set") _) _ _ _
  refine wpAny_pure ⟨Code.quiet_builtin _ (by decide +kernel), codeAny_builtin PySem.F.entry_type_call ?_⟩
  rw [Around.under_plain (weight_type_call_type "set" [.ref l] []) rfl]
  have f1 := PySem.F.called_set.notType
  have f2 := PySem.F.called_set.canCreate
  have f3 := PySem.F.typeCall_set_1 (.ref l)
  repeat (any_goals (first | assumption | wp_step))
  refine codeAny_mono (code_set_new_1 (.ref l) (E := E) (Q₁ := fun ob s1 => ∃ led : Bool, ob = .ref s.heap.objs.size ∧ s1 = { s with heap := s.heap.push (newSet led) }) fun led => ⟨led, rfl, rfl⟩) fun r s1 hr => ?_
  cases r with
  | error e => exact hr
  | ok fl =>
    cases fl with
    | next => exact hr.elim
    | brk => exact hr.elim
    | cont => exact hr.elim
    | ret ob =>
      obtain ⟨led, rfl, rfl⟩ := hr
      have atS : (s.heap.push (newSet led)).get? s.heap.objs.size = some (newSet led) := Heap.get?_push_size _ rfl
      have ty : Shared.TypeIs { s with heap := s.heap.push (newSet led) } (.ref s.heap.objs.size) "set" := ⟨_, atS, rfl⟩
      have i1 := PySem.F.called_set.init.lookup
      have i2 := PySem.F.called_set.init.bind (.ref s.heap.objs.size)
      repeat (any_goals (first | assumption | wp_step))
      refine codeAny_mono (codeAny_call_builtin (R := wants (fun r s2 => r = .none ∧ ∃ h' tk, s2 = { s with heap := h', toks := tk } ∧ h'.SetOf (PySem.strKind prog w) s.heap.objs.size (among xs) (dis xs) ∧ (∀ b o, b < s.heap.objs.size → s.heap.get? b = some o → h'.get? b = some o)) E) PySem.F.called_set.init.plain PySem.F.entry_set_init (check_set_init_1 ty ?_)) fun r2 s2 hr2 => ?_
      · obtain ⟨ol, hol, hcl, nl, hdl⟩ := hl
        obtain ⟨oc, od, oda, osl⟩ := ol
        simp only at hcl hdl
        subst hcl hdl
        have hol' : (s.heap.push (newSet led)).get? l = some { cls := .type "list", dict := od, data := .seq items nl, slots := osl } := Heap.get?_push_of_some _ hol
        have g1 := PySem.F.sub_list_set
        have g2 := PySem.F.sub_list_frozenset
        have g3 : (Value.type "list" == Value.type "dict") = false := by decide
        have hl1 : (s.heap.push (newSet led)).IsList l items := ⟨_, hol', rfl, nl, rfl⟩
        unfold newSet at hol' hl1 ty atS ⊢
        unfold Builtin.«set.__init__» noKeywords Builtin.Frozenset.updateFrom
        generalize hPI : pyIter = PI
        wp_walk
        subst hPI
        refine wpAny_pyIter_list hl1 ?_
        refine wpAny_bind (wpAny_runValue ?_)
        have ls : l < s.heap.objs.size := Heap.lt_size hol
        have hh3 : A.in1.in1.in1.handled = none := by simp [hh]
        have sz : (s.heap.push (newSet led)).objs.size = s.heap.objs.size + 1 := Heap.size_push _ _
        unfold newSet at sz
        have n1 : l ≠ (s.heap.push { cls := .type "set", dict := none, data := .set #[] 0 (.fresh 0 0 led) }).objs.size := by
          rw [sz]
          exact Nat.ne_of_lt (Nat.lt_succ_of_lt ls)
        have n2 : s.heap.objs.size ∉ [(s.heap.push { cls := .type "set", dict := none, data := .set #[] 0 (.fresh 0 0 led) }).objs.size, l] := by
          rw [sz]
          intro z
          rcases List.mem_cons.mp z with z | z
          · exact absurd z (Nat.ne_of_lt (Nat.lt_succ_self _))
          · exact absurd (List.mem_singleton.mp z) (Nat.ne_of_gt ls)
        have hsz : xs.length = items.size := by rw [← StrsAre.len_eq hi, Array.length_toList]
        have hval : ∀ (i : Nat) (v : Value), items[i]? = some v → ∃ t x, v = .str x t ∧ xs[i]? = some x := fun i v hv => by
          obtain ⟨t, e⟩ := SS.strs_at hi i v (by rw [Array.getElem?_toList]; exact hv)
          have hlt : i < xs.length := by
            rw [hsz]
            exact (Array.getElem?_eq_some_iff.mp hv).1
          exact ⟨t, xs[i], by
            rw [e, List.getD_eq_getElem?_getD, List.getElem?_eq_getElem hlt]
            rfl, List.getElem?_eq_getElem hlt⟩
        refine fill_strs ((Walks.list hh3 _ l n1 items).toS) s.heap.objs.size n2 xs hsz (by rw [← hsz]; exact hn) hval (items.size - 0) 0 _ (by omega) (Nat.zero_le _)
          ⟨⟨_, Heap.get?_push_size _ rfl, rfl, rfl⟩, (hl1.push _)⟩ ?hS0 ?hR
        case hS0 =>
          exact SetOf_congr ((setObjOf_fresh (knd := PySem.strKind prog w) led).setOf (Heap.get?_push_of_some _ atS) (by unfold scanBound; omega)) (fun _ => rfl) rfl
        case hR =>
          intro s' mv set'
          obtain ⟨h', g', d', tk', os'⟩ := s'
          obtain rfl : g' = s.gens := mv.gens
          obtain rfl : d' = s.drawn := mv.drawn
          obtain rfl : os' = s.os := mv.os
          show wpAny _ _ _ _ _ _
          refine wpAny_pure ?_
          show wpAny _ _ (ret Value.none) _ _ _
          refine wpAny_pure ⟨rfl, h', tk', rfl, set', fun b o hb e => ?_⟩
          refine mv.heap b o ?_ (Heap.get?_push_of_some _ (Heap.get?_push_of_some _ e))
          rw [sz]
          intro z
          rcases List.mem_cons.mp z with z | z
          · exact absurd z (Nat.ne_of_lt hb)
          · exact absurd (List.mem_singleton.mp z) (Nat.ne_of_lt (Nat.lt_succ_of_lt hb))
      · cases r2 with
        | error e => exact hr2
        | ok fl2 =>
          cases fl2 with
          | next => exact hr2.elim
          | brk => exact hr2.elim
          | cont => exact hr2.elim
          | ret r =>
            obtain ⟨rfl, h', tk, rfl, set', old⟩ := hr2
            repeat (any_goals (first | assumption | wp_step))
            exact k _ _ set' old

set_option maxHeartbeats 16000000 in
/-- set(xs), xs a tuple of texts -/
theorem set_of_tuple {l : Addr} {items : Array Value} {xs : List Str} {Q : Value → Shared → Prop} (hh : A.handled = none) (hl : s.heap.IsTuple l items) (hi : StrsAre items.toList xs) (hn : xs.length + 1 < scanBound)
    (k : ∀ (h' : Heap) (tk : Nat), h'.SetOf (PySem.strKind prog w) s.heap.objs.size (among xs) (dis xs) → (∀ b o, b < s.heap.objs.size → s.heap.get? b = some o → h'.get? b = some o) → Q (.ref s.heap.objs.size) { s with heap := h', toks := tk }) :
    wpAny (model prog w) A (call (.type "set") [.ref l]) Q E s := by
  obtain ⟨cc, tl, mro⟩ := PySem.F.called_set.mro
  have made := PySem.F.called_set.made
  have isub := PySem.F.called_set.sub
  refine wpAny_call (codeAny_of_tree ?_)
  show wpAny _ _ (callAny (.type "set") _) _ _ _
  refine wpAny_pure ⟨Code.quiet_builtin _ (by decide +kernel), codeAny_builtin PySem.F.entry_type_call ?_⟩
  rw [Around.under_plain (weight_type_call_type "set" [.ref l] []) rfl]
  have f1 := PySem.F.called_set.notType
  have f2 := PySem.F.called_set.canCreate
  have f3 := PySem.F.typeCall_set_1 (.ref l)
  repeat (any_goals (first | assumption | wp_step))
  refine codeAny_mono (code_set_new_1 (.ref l) (E := E) (Q₁ := fun ob s1 => ∃ led : Bool, ob = .ref s.heap.objs.size ∧ s1 = { s with heap := s.heap.push (newSet led) }) fun led => ⟨led, rfl, rfl⟩) fun r s1 hr => ?_
  cases r with
  | error e => exact hr
  | ok fl =>
    cases fl with
    | next => exact hr.elim
    | brk => exact hr.elim
    | cont => exact hr.elim
    | ret ob =>
      obtain ⟨led, rfl, rfl⟩ := hr
      have atS : (s.heap.push (newSet led)).get? s.heap.objs.size = some (newSet led) := Heap.get?_push_size _ rfl
      have ty : Shared.TypeIs { s with heap := s.heap.push (newSet led) } (.ref s.heap.objs.size) "set" := ⟨_, atS, rfl⟩
      have i1 := PySem.F.called_set.init.lookup
      have i2 := PySem.F.called_set.init.bind (.ref s.heap.objs.size)
      repeat (any_goals (first | assumption | wp_step))
      refine codeAny_mono (codeAny_call_builtin (R := wants (fun r s2 => r = .none ∧ ∃ h' tk, s2 = { s with heap := h', toks := tk } ∧ h'.SetOf (PySem.strKind prog w) s.heap.objs.size (among xs) (dis xs) ∧ (∀ b o, b < s.heap.objs.size → s.heap.get? b = some o → h'.get? b = some o)) E) PySem.F.called_set.init.plain PySem.F.entry_set_init (check_set_init_1 ty ?_)) fun r2 s2 hr2 => ?_
      · obtain ⟨ol, hol, hcl, nl, hdl⟩ := hl
        obtain ⟨oc, od, oda, osl⟩ := ol
        simp only at hcl hdl
        subst hcl hdl
        have hol' : (s.heap.push (newSet led)).get? l = some { cls := .type "tuple", dict := od, data := .seq items nl, slots := osl } := Heap.get?_push_of_some _ hol
        have g1 := PySem.F.sub_tuple_set
        have g2 := PySem.F.sub_tuple_frozenset
        have g3 : (Value.type "tuple" == Value.type "dict") = false := by decide
        have hl1 : (s.heap.push (newSet led)).IsTuple l items := ⟨_, hol', rfl, nl, rfl⟩
        unfold newSet at hol' hl1 ty atS ⊢
        unfold Builtin.«set.__init__» noKeywords Builtin.Frozenset.updateFrom
        generalize hPI : pyIter = PI
        wp_walk
        subst hPI
        refine wpAny_pyIter_tuple hl1 ?_
        refine wpAny_bind (wpAny_runValue ?_)
        have ls : l < s.heap.objs.size := Heap.lt_size hol
        have hh3 : A.in1.in1.in1.handled = none := by simp [hh]
        have sz : (s.heap.push (newSet led)).objs.size = s.heap.objs.size + 1 := Heap.size_push _ _
        unfold newSet at sz
        have n1 : l ≠ (s.heap.push { cls := .type "set", dict := none, data := .set #[] 0 (.fresh 0 0 led) }).objs.size := by
          rw [sz]
          exact Nat.ne_of_lt (Nat.lt_succ_of_lt ls)
        have n2 : s.heap.objs.size ∉ [(s.heap.push { cls := .type "set", dict := none, data := .set #[] 0 (.fresh 0 0 led) }).objs.size, l] := by
          rw [sz]
          intro z
          rcases List.mem_cons.mp z with z | z
          · exact absurd z (Nat.ne_of_lt (Nat.lt_succ_self _))
          · exact absurd (List.mem_singleton.mp z) (Nat.ne_of_gt ls)
        have hsz : xs.length = items.size := by rw [← StrsAre.len_eq hi, Array.length_toList]
        have hval : ∀ (i : Nat) (v : Value), items[i]? = some v → ∃ t x, v = .str x t ∧ xs[i]? = some x := fun i v hv => by
          obtain ⟨t, e⟩ := SS.strs_at hi i v (by rw [Array.getElem?_toList]; exact hv)
          have hlt : i < xs.length := by
            rw [hsz]
            exact (Array.getElem?_eq_some_iff.mp hv).1
          exact ⟨t, xs[i], by
            rw [e, List.getD_eq_getElem?_getD, List.getElem?_eq_getElem hlt]
            rfl, List.getElem?_eq_getElem hlt⟩
        refine fill_strs ((Walks.tuple hh3 _ l n1 items).toS) s.heap.objs.size n2 xs hsz (by rw [← hsz]; exact hn) hval (items.size - 0) 0 _ (by omega) (Nat.zero_le _)
          ⟨⟨_, Heap.get?_push_size _ rfl, rfl, rfl⟩, (hl1.push _)⟩ ?hS0 ?hR
        case hS0 =>
          exact SetOf_congr ((setObjOf_fresh (knd := PySem.strKind prog w) led).setOf (Heap.get?_push_of_some _ atS) (by unfold scanBound; omega)) (fun _ => rfl) rfl
        case hR =>
          intro s' mv set'
          obtain ⟨h', g', d', tk', os'⟩ := s'
          obtain rfl : g' = s.gens := mv.gens
          obtain rfl : d' = s.drawn := mv.drawn
          obtain rfl : os' = s.os := mv.os
          show wpAny _ _ _ _ _ _
          refine wpAny_pure ?_
          show wpAny _ _ (ret Value.none) _ _ _
          refine wpAny_pure ⟨rfl, h', tk', rfl, set', fun b o hb e => ?_⟩
          refine mv.heap b o ?_ (Heap.get?_push_of_some _ (Heap.get?_push_of_some _ e))
          rw [sz]
          intro z
          rcases List.mem_cons.mp z with z | z
          · exact absurd z (Nat.ne_of_lt hb)
          · exact absurd (List.mem_singleton.mp z) (Nat.ne_of_lt (Nat.lt_succ_of_lt hb))
      · cases r2 with
        | error e => exact hr2
        | ok fl2 =>
          cases fl2 with
          | next => exact hr2.elim
          | brk => exact hr2.elim
          | cont => exact hr2.elim
          | ret r =>
            obtain ⟨rfl, h', tk, rfl, set', old⟩ := hr2
            repeat (any_goals (first | assumption | wp_step))
            exact k _ _ set' old
end
section
variable {X : Cx}
/-- len(set(xs)) -/
def tLenS (K : PySem.W.Frag) (ta : TE) : TE := fun σ H Q => ta σ H fun x H1 => ∃ (l : Addr) (xs : List Str), x = .ref l ∧ (SqL K H1 l (xs.map V.str) ∨ SqT K H1 l (xs.map V.str)) ∧ xs.length ≤ 100 ∧ Q (.int (dis xs)) H1
theorem small100 {n : Nat} (h : n ≤ 100) : n + 1 < scanBound := by
  unfold scanBound
  omega
theorem pe_lenS {a : Expr} {ta : TE} {p p2 q pos : Pos} (hc : X.calm = true) (hm : X.mg "len" = none) (hm2 : X.mg "set" = none) (ha : PE X a ta) (hg : Gl X "len" := by rfl) (hg2 : Gl X "set" := by rfl)
    (na : starEach [a] X.env = (false, eval a X.env) :: starEach [] X.env := by rfl) : PE X (.Call (.Name "len" p) [.Call (.Name "set" p2) [a] [] q] [] pos) (tLenS X.K ta) := by
  refine ⟨fun pins s σ H Q I h => ?_⟩
  refine Call_ (ld_blt I hg hm boot_len ?_)
  refine callWith_builtin1 (args_cons ?_ rfl) rfl rfl
  refine Call_ (ld_blt I hg2 hm2 boot_set ?_)
  refine callWith_type1 (args_cons (thn (ha.run pins s σ H _ I h) fun v s1 ⟨x, H1, I1, r1, q1⟩ => args_nil ?_) na) na rfl
  obtain ⟨l, xs, rfl, hq, h1, q1⟩ := q1
  cases r1
  have fin : ∀ (h' : Heap) (tk : Nat), h'.SetOf (PySem.strKind X.prog X.w) s1.heap.objs.size (among xs) (dis xs) → (∀ b o, b < s1.heap.objs.size → s1.heap.get? b = some o → h'.get? b = some o) →
      wpAny (model X.prog X.w) X.A (spliced (backTo pos (starEach [] X.env))) (fun vs s2 => wpAny (model X.prog X.w) X.A (call (.builtin "len") (Value.ref s1.heap.objs.size :: vs)) (EP X pins σ Q) X.xe s2) X.xe { s1 with heap := h', toks := tk } := fun h' tk hS hk => by
    refine args_nil ?_
    obtain ⟨o, es, ep, t, ho, hex, hd, _, _, _, hf, hn⟩ := hS
    have I2 : Inv X pins σ H1 { s1 with heap := h', toks := tk } := I1.kept fun b o e => hk b o (Heap.lt_size e) e
    have le := dis_le xs
    refine call_len_set ho hex hd hf (by rw [hn]; omega) ⟨.int (dis xs), H1, I2.tok _, ⟨_, by rw [hn]⟩, q1⟩
  rcases hq with hq | hq
  · obtain ⟨its, r, pl, hz⟩ := I1.list hq
    exact set_of_list (I1.ok.hd hc) pl.isList (by simpa using strsAre_of r) (small100 h1) fin
  · obtain ⟨its, r, pl, hz⟩ := I1.tuple hq
    exact set_of_tuple (I1.ok.hd hc) pl (by simpa using strsAre_of r) (small100 h1) fin
end
end Fm

/-! ## FmIter -/
set_option Elab.async false
set_option maxRecDepth 100000
set_option maxHeartbeats 4000000
/-! Walks over what may be a list or a tuple; enumerate of a tuple. -/
namespace Fm
open PySem L2 PySem.Spec PyProof.Rows
open PySem.SeqAt
open MeetsSeq MeetsSeq2 MeetsSeq3 SeqRoads2
theorem draws_tuple {prog : Program} {w : World} {A : Around} (hh : A.handled = none) (it l : Addr) (hne : l ≠ it) (items : Array Value) :
    Draws prog w A it [it, l] items.size (fun i v => items[i]? = some v) (fun i h => h.IsTupleIter it l i ∧ h.IsTuple l items) where
  live := fun _ _ z => let ⟨o, ho, _⟩ := z.1; ⟨o, ho⟩
  frame := fun _ _ _ z k => ⟨z.1.at fun o e => k it (by simp) o e, let ⟨o, ho, r⟩ := z.2; ⟨o, k l (by simp) o ho, r⟩⟩
  item := fun i s Q E hi z q => RZ.nextOf_tuple_item z.1 z.2 (x := items[i]) (by simp [hi]) fun h' it' sb => q _ h' s.toks (by simp [hi]) ⟨it', let ⟨o, ho, r⟩ := z.2; ⟨o, (sb.2 l hne).trans ho, r⟩⟩ sb
  done := fun s Q E z q => RZ.nextOf_tuple_end hh z.1 z.2 (by simp) q
theorem meets_enum_tuple (l : Addr) (items : Array Value) (n : Nat) (dct : Option Addr) (sl : Array (Option Value)) :
    Meets (Builtin.«enumerate.__new__» ⟨[.type "enumerate", .ref l], []⟩) (fun _ R s => s.heap.get? l = some { cls := .type "tuple", dict := dct, data := .seq items n, slots := sl } ∧
      R (.ok (.ret (.ref (s.heap.push { cls := .type "tuple_iterator", data := .fields #[.ref l, .int 0 0] }).objs.size)))
        { s with heap := (s.heap.push { cls := .type "tuple_iterator", data := .fields #[.ref l, .int 0 0] }).push { cls := .type "enumerate", data := .fields #[.none, .bool false, .ref s.heap.objs.size, rawInt 0, .none, .none] } }) :=
  .of_wp fun prog w A R s h => by
    obtain ⟨hp, g, d, tk, os⟩ := s
    obtain ⟨hl, h⟩ := h
    have sub := sub_enumerate
    have tup : Heap.IsTuple (Shared.heap ⟨hp, g, d, tk, os⟩) l items := ⟨_, hl, rfl, n, rfl⟩
    wp_walk using AutoSeq1.wpAny_loadPart' hl
    refine wpAny_stack_any fun st => wpAny_pure ?_
    split
    · rename_i c _ _ _ _ _
      cases (c == Value.type "enumerate") <;>
        (wp_walk using AutoSeq1.wpAny_loadPart' hl, wpAny_pyIter_tuple tup; exact ⟨_, rfl, h⟩)
    · wp_walk using AutoSeq1.wpAny_loadPart' hl, wpAny_pyIter_tuple tup
      exact ⟨_, rfl, h⟩
section
variable {prog : Program} {w : World} {A : Around} {E : Value → Shared → Prop} {s : Shared}
theorem call_enum_tuple {l : Addr} {items : Array Value} {Q : Value → Shared → Prop} (ht : s.heap.IsTuple l items)
    (k : ∀ h', IsEnum h' (s.heap.objs.size + 1) s.heap.objs.size 0 .none → h'.IsTupleIter s.heap.objs.size l 0 → (∀ b o, s.heap.get? b = some o → h'.get? b = some o) → Q (.ref (s.heap.objs.size + 1)) { s with heap := h' }) :
    wpAny (model prog w) A (call (.type "enumerate") [.ref l]) Q E s := by
  obtain ⟨⟨c, dct, dt, sl⟩, hl, hc, n, hd⟩ := ht
  simp only at hc hd
  subst hc hd
  refine callType_new F.called_enumerate (by decide) (F.typeCall_enumerate_1 _) (F.newCall_enumerate_1 _) (fun ob => F.args_object_init_2 ob _) F.entry_enumerate_new (meets_enum_tuple l items n dct sl) ⟨hl, ?_⟩
  have sz : (s.heap.push { cls := .type "tuple_iterator", data := .fields #[.ref l, .int 0 0] }).objs.size = s.heap.objs.size + 1 := Heap.size_push ..
  show _ ∧ _
  have he := Heap.get?_push_size (s.heap.push { cls := .type "tuple_iterator", data := .fields #[.ref l, .int 0 0] }) (o := { cls := .type "enumerate", data := .fields #[.none, .bool false, .ref s.heap.objs.size, rawInt 0, .none, .none] }) rfl
  rw [sz] at he ⊢
  exact ⟨⟨_, he, rfl⟩, k _ he ⟨_, Heap.get?_push_of_some _ (Heap.get?_push_size _ rfl), rfl, rfl⟩ fun b o x => Heap.get?_push_of_some _ (Heap.get?_push_of_some _ x)⟩
end
/-- the tuple at a, its items in new pairs with their numbers -/
def Iet (K : PySem.W.Frag) (a : Addr) : It :=
  ⟨fun i H => ∃ xs x, SqT K H a xs ∧ xs[i]? = some x, fun i H v H' => ∃ T x, v = .ref T ∧ H T = none ∧ H' = upd H T (.tup [.int (i : Nat), x]) ∧ ∀ xs, SqT K H a xs → xs[i]? = some x, fun i H => ∃ xs, SqT K H a xs ∧ xs.length ≤ i⟩
theorem turn_et {P : Program} {w : World} {K : PySem.W.Frag} {elts : List Expr} {kk : Nat} {tpos : Pos} (a e it : Addr) (hai : a ≠ it) (hae : e ≠ a) :
    Turn P w K (.Tuple elts kk tpos) (Iet K a) [e, it] e (fun i h => (∃ old, IsEnum h e it ((i : Nat) : Int) old) ∧ h.IsTupleIter it a i ∧ e ≠ it) where
  mem := List.mem_cons_self
  obj := fun i h st b hb => by
    obtain ⟨⟨old, he⟩, ⟨o, ho, hc, hd⟩, _⟩ := st
    rcases List.mem_cons.mp hb with z | z
    · rw [z]
      exact ⟨_, he, fun v q => nomatch q⟩
    · rw [List.mem_singleton.mp z]
      exact ⟨o, ho, fun v q => by rw [hd] at q; cases q⟩
  keep := fun i h h' st k => by
    obtain ⟨⟨old, he⟩, hi, hne⟩ := st
    exact ⟨⟨old, k e (by simp) _ he⟩, hi.at fun o q => k it (by simp) o q, hne⟩
  item := by
    intro X hP hw hK hc i pins s σ H E I hf st hg
    subst hP hw hK
    obtain ⟨⟨old, he⟩, hit, hne⟩ := st
    obtain ⟨xs, x, hq, hx⟩ := hg
    obtain ⟨its, rv, tp, hz⟩ := I.tuple hq
    obtain ⟨u, hu, ru⟩ := rv.get hx
    have el : e < s.heap.objs.size := Heap.lt_size he
    have il : it < s.heap.objs.size := by
      obtain ⟨_, q, _⟩ := hit
      exact Heap.lt_size q
    have lt : i < its.toArray.size := by
      rw [List.size_toArray]
      exact (List.getElem?_eq_some_iff.mp hu).1
    have out : e ∉ [it, a] := by
      intro z
      rcases List.mem_cons.mp z with z | z
      · exact hne z
      · exact hae (List.mem_singleton.mp z)
    refine wpAny_pyNext_enum_itemD (draws_tuple (by show X.A.in1.handled = none; simpa using I.ok.hd hc) it a hai its.toArray) he ⟨hit, tp⟩ lt hne out fun y h' tk py ho hst' hT hsz hk => ?_
    obtain rfl : u = y := by
      have z : its.toArray[i]? = some u := by simpa using hu
      rw [z] at py
      exact Option.some.inj py
    refine ⟨_, rfl, wpAny_letOwnedTupleGo_enum (s := { s with heap := h', toks := tk + 1 }) ho fun h2 he2 sb => ?_⟩
    have hT2 : h2.get? s.heap.objs.size = some { cls := .type "tuple", data := .seq #[.int i tk, u] } := (sb.2 _ (Nat.ne_of_gt el)).trans hT
    have new : ObjOk X.prog X.w (upd H s.heap.objs.size (.tup [.int (i : Nat), x])) h2 s.heap.objs.size (.tup [.int (i : Nat), x]) :=
      ⟨by show 2 ≤ sizeLine; decide, [.int i tk, u], .cons ⟨_, rfl⟩ (.cons ru .nil), ⟨_, hT2, rfl, _, rfl⟩⟩
    have I1 : Inv X pins σ (upd H s.heap.objs.size (.tup [.int (i : Nat), x])) { s with heap := h2, toks := tk + 1 } :=
      I.turnedNew (ch := [e, it]) (fun b ob hb q => (sb.2 b (fun z => hb (by simp [z]))).trans (hk b ob (fun z => hb (by simp [z])) (fun z => hb (by simp [z])) q)) hf (Nat.le_refl _) new
    refine ⟨.ref s.heap.objs.size, _, I1, rfl, ⟨_, x, rfl, I.hok.fresh (Nat.le_refl _), rfl, fun ys hy => by rw [I.tuple_inj hy hq]; exact hx⟩, ⟨⟨u, ?_⟩, hst'.1.at fun o q => (sb.2 it (Ne.symm hne)).trans q, hne⟩, fun b hb => ?_⟩
    · rw [show ((i + 1 : Nat) : Int) = (i : Int) + 1 from rfl]
      exact he2
    · have lt' : b < s.heap.objs.size := by
        rcases List.mem_cons.mp hb with z | z
        · rw [z]; exact el
        · rw [List.mem_singleton.mp z]; exact il
      rw [upd_ne (Nat.ne_of_lt lt')]
      exact (hf b hb).1
  done := by
    intro X hP hw hK hc i pins s σ H E I hf st hg
    subst hP hw hK
    obtain ⟨⟨old, he⟩, hit, hne⟩ := st
    obtain ⟨xs, hq, hx⟩ := hg
    obtain ⟨its, rv, tp, hz⟩ := I.tuple hq
    obtain ⟨f0, f1, f2, f3, f4, f5⟩ := hf it (by simp)
    have len := rv.length
    have hh : X.A.in1.handled = none := by simpa using I.ok.hd hc
    have hT : s.TypeIs (.ref e) "enumerate" := ⟨_, he, rfl⟩
    unfold pyNext
    refine wpAny_bind (wpAny_attempt (wpAny_callSpecial?_slot (name := Str.ofString "__next__") hT F.slot_enumerate_next (wpAny_call_entry F.slot_enumerate_next hT F.entry_enumerate_next ?_ (F.args_enumerate_next_1 _))))
    show wpAny _ _ (field (.ref e) 2 >>= _) _ _ _
    refine wpAny_bind (wpAny_field he rfl (x := .ref it) rfl ?_)
    refine wpAny_bind (RZ.nextOf_tuple_end hh hit tp (by simp; omega) fun h' x he' hx' => ?_)
    obtain ⟨o, ho, hc'⟩ := hx'
    refine wpAny_bind (wpAny_isInstance (T := "StopIteration") (b := true) ⟨o, ho, hc'⟩ isSubtype_stop ?_)
    exact wpAny_pure ⟨rfl, I.turned (t' := s.toks) (fun b o hb q => he' b o hb q) f0 f1 f3 f4 f5⟩
  self := fun A i s Q E st h => let ⟨⟨_, he⟩, _⟩ := st; wpAny_pyIter_enum he h
theorem walk_et {K : PySem.W.Frag} {a : Addr} {xs : List V} : Walk (Iet K a) xs.length (fun H => SqT K H a xs) (YPair (fun i => some (.int (i : Nat))) (fun i => xs[i]?)) := by
  refine ⟨fun i _ hi q => ⟨xs, xs[i], q, by simp [hi]⟩, fun _ q => ⟨xs, q, Nat.le_refl _⟩, fun i H v H' _ q y => ?_⟩
  obtain ⟨T, x, h1, h2, h3, h4⟩ := y
  exact ⟨T, .int (i : Nat), x, h1, h2, h3, rfl, h4 xs q⟩
section
variable {X : Cx} {tg l : Expr} {tl : TE}
/-- the walk of a list or of a tuple, whichever it is -/
def SeqGo (K : PySem.W.Frag) (H : Hp) (a : Addr) (xs : List V) (R : It → Hp → Prop) : Prop := (SqL K H a xs ∧ R (Itl K a) H) ∨ (SqT K H a xs ∧ R (Itt K a) H)
def EnumGo (K : PySem.W.Frag) (H : Hp) (a : Addr) (xs : List V) (R : It → Hp → Prop) : Prop := (SqL K H a xs ∧ R (Ite K a) H) ∨ (SqT K H a xs ∧ R (Iet K a) H)
/-- over a list or a tuple -/
def iAny (K : PySem.W.Frag) (tl : TE) : TI := fun σ H R => tl σ H fun x H1 => ∃ (a : Addr) (xs : List V), x = .ref a ∧ SeqGo K H1 a xs R
theorem pi_any (hl : PE X l tl) : PI X tg l (iAny X.K tl) := by
  refine ⟨fun pins s σ H R I h => thn (hl.run pins s σ H _ I h) fun v s1 ⟨x, H1, I1, r1, a, xs, ex, q⟩ => ?_⟩
  subst ex
  cases r1
  have free : ∀ b ∈ [s1.heap.objs.size], b = s1.heap.objs.size := fun b hb => List.mem_singleton.mp hb
  rcases q with ⟨hq, q⟩ | ⟨hq, q⟩
  · obtain ⟨its, rv, lp, hz⟩ := I1.list hq
    refine wpAny_pyIter_list lp.isList ⟨s1.heap.objs.size, [s1.heap.objs.size], _, _, H1, rfl, I1.kept (t' := s1.toks) fun b o e => Heap.get?_push_of_some _ e, turn_list a _, ⟨_, Heap.get?_push_size _ rfl, rfl, rfl⟩, fun b hb => ?_, q⟩
    rw [free b hb]
    exact I1.fpOk (Nat.le_refl _) (I1.hok.fresh (Nat.le_refl _))
  · obtain ⟨its, rv, tp, hz⟩ := I1.tuple hq
    refine wpAny_pyIter_tuple (show s1.heap.IsTuple a its.toArray from tp) ⟨s1.heap.objs.size, [s1.heap.objs.size], _, _, H1, rfl, I1.kept (t' := s1.toks) fun b o e => Heap.get?_push_of_some _ e, turn_tuple a _, ⟨_, Heap.get?_push_size _ rfl, rfl, rfl⟩, fun b hb => ?_, q⟩
    rw [free b hb]
    exact I1.fpOk (Nat.le_refl _) (I1.hok.fresh (Nat.le_refl _))
theorem any_of {K : PySem.W.Frag} {H0 H : Hp} {a : Addr} {xs : List V} {R : It → Hp → Prop} (h : SqL K H0 a xs ∨ SqT K H0 a xs) (s : Same H0 H)
    (go : ∀ (J : It) (G : Hp → Prop), (∀ H', Same H0 H' → G H') → Walk J xs.length G (YAt xs) → R J H) : SeqGo K H a xs R := by
  rcases h with h | h
  · exact .inl ⟨s.seq h, go _ _ (fun H' s => s.seq h) walk_list⟩
  · exact .inr ⟨SqT.ext h s, go _ _ (fun H' s => SqT.ext h s) walk_tup⟩
theorem enum_of {K : PySem.W.Frag} {H0 H : Hp} {a : Addr} {xs : List V} {R : It → Hp → Prop} (h : SqL K H0 a xs ∨ SqT K H0 a xs) (s : Same H0 H)
    (go : ∀ (J : It) (G : Hp → Prop), (∀ H', Same H0 H' → G H') → Walk J xs.length G (YPair (fun i => some (.int (i : Nat))) (fun i => xs[i]?)) → R J H) : EnumGo K H a xs R := by
  rcases h with h | h
  · exact .inl ⟨s.seq h, go _ _ (fun H' s => s.seq h) walk_enum⟩
  · exact .inr ⟨SqT.ext h s, go _ _ (fun H' s => SqT.ext h s) walk_et⟩
/-- enumerate of a list or a tuple -/
def iEnumA (K : PySem.W.Frag) (ta : TA) : TI := fun σ H R => ta σ H fun vs H1 => ∃ (a : Addr) (xs : List V), vs = [.ref a] ∧ EnumGo K H1 a xs R
theorem pi_enumA {e : Expr} {ta : TA} {p pos tpos : Pos} {elts : List Expr} {kk : Nat} (hg : Gl X "enumerate") (hm : X.mg "enumerate" = none) (ha : PA X [e] ta) (hs : starEach [e] X.env = [(false, eval e X.env)] := by rfl) :
    PI X (.Tuple elts kk tpos) (.Call (.Name "enumerate" p) [e] [] pos) (iEnumA X.K ta) := by
  refine ⟨fun pins s σ H R I h => ?_⟩
  refine Call_ (ld_blt I hg hm boot_enumerate (PyProof.Rows.callWith_type1 (thn (ha.run pos pins s σ H _ I h) fun us s1 ⟨vs, H1, I1, r1, a, xs, ex, q⟩ => ?_) hs rfl))
  subst ex
  cases r1 with
  | cons r rr =>
    cases rr
    cases r
    have old : ∀ b ∈ [s1.heap.objs.size + 1, s1.heap.objs.size], s1.heap.objs.size ≤ b := fun b hb => by
      rcases List.mem_cons.mp hb with z | z
      · rw [z]; exact Nat.le_add_right _ _
      · rw [List.mem_singleton.mp z]; exact Nat.le_refl _
    rcases q with ⟨hq, q⟩ | ⟨hq, q⟩
    · obtain ⟨its, rv, lp, hz⟩ := I1.list hq
      refine call_enumerate_list lp.isList fun h' he hit hsz hk => wpAny_pyIter_enum he ?_
      exact ⟨s1.heap.objs.size + 1, [s1.heap.objs.size + 1, s1.heap.objs.size], _, _, H1, rfl, I1.kept (t' := s1.toks) hk, turn_enum a (s1.heap.objs.size + 1) s1.heap.objs.size, ⟨⟨.none, he⟩, hit, Nat.succ_ne_self _⟩, fun b hb => I1.fpOk (old b hb) (I1.hok.fresh (old b hb)), q⟩
    · obtain ⟨its, rv, tp, hz⟩ := I1.tuple hq
      have al : a < s1.heap.objs.size := by
        obtain ⟨o, ho, _⟩ := tp
        exact Heap.lt_size ho
      refine call_enum_tuple tp fun h' he hit hk => wpAny_pyIter_enum he ?_
      exact ⟨s1.heap.objs.size + 1, [s1.heap.objs.size + 1, s1.heap.objs.size], _, _, H1, rfl, I1.kept (t' := s1.toks) hk, turn_et a (s1.heap.objs.size + 1) s1.heap.objs.size (Nat.ne_of_lt al) (Nat.ne_of_gt (Nat.lt_succ_of_lt al)), ⟨⟨.none, he⟩, hit, Nat.succ_ne_self _⟩, fun b hb => I1.fpOk (old b hb) (I1.hok.fresh (old b hb)), q⟩
end
end Fm

/-! ## FmEq -/
set_option Elab.async false
set_option maxRecDepth 100000
set_option maxHeartbeats 4000000
/-! == by a class's own __eq__, beside anything; != of two of its objects. -/
namespace Fm
open PySem L2 PySem.Spec PyProof.Rows
section
variable {X : Cx} {k : Nat} {f C : Addr} {fd : FuncData} {ps : List Str} {sp : Sp}
/-- a call of the class's __eq__ answers as it promises -/
theorem run_eq {pins : List (Addr × Obj)} {σ : L2.St} {H : Hp} {s : Shared} {A : Around} {x y : V} {a : Addr} {v : Value} {R : Bool → Hp → Prop} (F : FnOk X.prog X.w X.K X.mg X.base CX0 k f fd ps sp) (hb : Binds X.K fd ps []) (hr : Room k A) (hf : A.frames = X.A.frames)
    (I : Inv X pins σ H s) (ex : x = .ref a) (ry : RelV y v) (h : sp [x, y] H (fun z H' => ∃ b, z = .bl b ∧ R b H') E0) :
    wpAny (model X.prog X.w) A (call (.ref f) [.ref a, v]) (fun r s' => ∃ b H', r = .bool b ∧ Inv X pins σ H' s' ∧ R b H') X.xe s := by
  subst ex
  have e := I.env0
  have e0 : Env0 X.prog X.w X.K X.mg X.base A X.stack s H := ⟨by rw [hf]; exact e.frames, e.mod, e.bs, e.bsz, e.funs, e.frf, e.hok, e.bare⟩
  have r2 : Vals [V.ref a, y] [Value.ref a, v] := .cons rfl (.cons ry .nil)
  have hl := F.len _ _ _ _ h
  have bt := hb s [.ref a, v] I.kIn (by simpa using hl)
  refine wpAny_call (codeAny_mono (F.run A X.stack s H ⟨[.ref a, v], []⟩ [.ref a, v] [.ref a, y] _ E0 hr e0 (by simpa using bt) r2 h) fun r s' hq => ?_)
  cases r with
  | error er => exact absurd hq (by intro z; exact z)
  | ok fl =>
    cases fl with
    | next => exact False.elim hq
    | brk => exact False.elim hq
    | cont => exact False.elim hq
    | ret u =>
      obtain ⟨z, H', I', rz, b, ez, q⟩ := I.after hq
      subst ez
      cases rz
      exact ⟨b, H', rfl, I', q⟩
/-- x == y, x of the class at C -/
def rEqI (K : PySem.W.Frag) (C : Addr) (sp : Sp) : R2 := fun x y H Q => ∃ (a dx : Addr) (fs : List (Str × V)) (t : Value), x = .ref a ∧ H a = some (.ins C dx fs) ∧ TyX K H y t ∧ PySem.W.notFirst K C t = true ∧ sp [x, y] H (fun z H' => ∃ b, z = .bl b ∧ Q (.bl b) H') E0
theorem op_eqI' (F : FnOk X.prog X.w X.K X.mg X.base CX0 k f fd ps sp) (hs : PySem.W.findIn X.K (.ref C) "__eq__" = some (some (.ref f))) (hf : PySem.W.isFn X.K (.ref f) = true) (hb : Binds X.K fd ps []) (hr : Room k X.A) :
    OpR X (compareOp .Eq) (rEqI X.K C sp) := by
  intro pins s σ H x y v u Q I rx ry h
  obtain ⟨a, dx, fs, t, ex, ha, ty, hn, hsp⟩ := h
  have ex' := ex
  subst ex
  cases rx
  obtain ⟨mA, J, _⟩ := ins_get I.hok ha
  obtain ⟨od, J, _⟩ := J.look
  obtain ⟨m, hF⟩ := I.fr
  obtain ⟨Pz, Z, pz, _⟩ := kit_of I ry ty
  show wpAny (model X.prog X.w) X.A (richCompare .Eq (.ref a) u) (EP X pins σ Q) X.xe s
  refine PySem.W.cmp_K (op := .Eq) (tb := t) hr.units0 hF I.ok.mod.kin J (Z.ty _ _ I.kIn pz) hn hs hf ?_
  refine wpAny_mono (run_eq (R := fun b H' => Q (.bl b) H') F hb hr rfl I ex' ry hsp) (fun r s' z => ?_) fun _ _ z => z
  obtain ⟨b, H', er, I', q⟩ := z
  subst er
  exact ⟨.bl b, H', I', rfl, q⟩
theorem if_builtin {M : Model} {A : Around} {E : Value → Shared → Prop} {s : Shared} {K : PySem.W.Frag} {x : Addr} {ox : Obj} {od : Option Obj} {name : Str} {T id : String} {args : List Value} {Q : Option Value → Shared → Prop}
    (X : K.In s.heap) (I : PySem.W.InstAt s.heap x ox C od) (hs : PySem.W.findIn K (.ref C) name = some (some (.builtin id))) (sl : Slot T name id) (h : wpAny M A (call (.builtin id) (.ref x :: args)) (fun v => Q (some v)) E s) :
    wpAny M A (callSpecialIfBound? (.ref x) name args) Q E s := by
  simp only [callSpecialIfBound?, bindSpecialIfBound?]
  refine wpAny_holding (wpAny_bind (wpAny_bind (wpAny_bind (I.type.here ((PySem.W.looks_findIn X hs).here ?_)))))
  refine wpAny_bind (wpAny_askSetting (wpAny_ite ?_))
  have fin : wpAny M A (call (.builtin id) ([.ref x] ++ args) >>= fun v => pure (some v)) Q E s := wpAny_bind (wpAny_mono h (fun v s' z => wpAny_pure z) fun _ _ z => z)
  rw [sl.bind (.ref x)]
  split
  · exact wpAny_bind (wpAny_pure (wpAny_pure (by exact fin)))
  · exact wpAny_tryCatch (wpAny_bind (wpAny_pure (wpAny_pure (by exact fin))))
/-- x != y, both of the class at C, which has no __ne__ of its own -/
def rNeI (C : Addr) (sp : Sp) : R2 := fun x y H Q => ∃ (a b dx dy : Addr) (fs gs : List (Str × V)), x = .ref a ∧ y = .ref b ∧ H a = some (.ins C dx fs) ∧ H b = some (.ins C dy gs) ∧ sp [x, y] H (fun z H' => ∃ c, z = .bl c ∧ Q (.bl (!c)) H') E0
theorem op_neI' (F : FnOk X.prog X.w X.K X.mg X.base CX0 k f fd ps sp) (hs : PySem.W.findIn X.K (.ref C) "__eq__" = some (some (.ref f))) (hf : PySem.W.isFn X.K (.ref f) = true) (hb : Binds X.K fd ps []) (hr : Room (k + 1) X.A)
    (hn : PySem.W.findIn X.K (.ref C) "__ne__" = some (some (.builtin "object.__ne__"))) (hm : PySem.W.mroIn X.K C (.type "object") = some true) :
    OpR X (compareOp .NotEq) (rNeI C sp) := by
  intro pins s σ H x y v u Q I rx ry h
  obtain ⟨a, b, dx, dy, fs, gs, ex, ey, ha, hb', hsp⟩ := h
  have ex' := ex
  have ey' := ey
  subst ex ey
  cases rx
  cases ry
  obtain ⟨mA, J, _⟩ := ins_get I.hok ha
  obtain ⟨od, J, _⟩ := J.look
  obtain ⟨mB, J2, _⟩ := ins_get I.hok hb'
  obtain ⟨od2, J2, _⟩ := J2.look
  have hr1 : Room k X.A.in1 := hr.in1
  have run := run_eq (A := X.A.in1) (R := fun c H' => Q (.bl (!c)) H') F hb hr1 rfl I ex' (y := .ref b) (v := .ref b) rfl hsp
  have units : X.A.in1.units < cLine := hr1.units0
  have body : wpAny (model X.prog X.w) X.A.in1 (Builtin.«object.__ne__» ⟨[.ref a, .ref b], []⟩) (fun fin s' => ∃ r, fin = .done (.ret r) ∧ EP X pins σ Q r s' ∧ r ≠ .notImplemented) X.xe s := by
    unfold Builtin.«object.__ne__»
    refine wpAny_bind (wpAny_of_eq (a := ((Value.ref a : Value), [Value.ref b])) (by first | rfl | (simp only [Builtin.slotArgs]; rfl)) ?_)
    refine wpAny_bind (wpAny_cRoomFor units ?_)
    refine wpAny_bind (PySem.W.ifBound_K I.kIn J hs hf (wpAny_mono run (fun r s' z => ?_) fun _ _ z => z))
    obtain ⟨c, H', er, I', q⟩ := z
    subst er
    refine wpAny_bind (wpAny_truthy_bool ?_)
    exact wpAny_pure ⟨_, rfl, ⟨.bl (!c), H', I', rfl, q⟩, fun z => nomatch z⟩
  have isub : PySem.W.Looks (model X.prog X.w) s.heap (isInstance (.ref a) (.type "object")) true := J.type.andThen (PySem.W.looks_mroIn I.kIn hm)
  have SF := PySem.F.cmp_object
  show wpAny (model X.prog X.w) X.A (richCompare .NotEq (.ref a) (.ref b)) (EP X pins σ Q) X.xe s
  unfold richCompare
  simp only [oneThing_ref]
  refine wpAny_holding (wpAny_bind (wpAny_cRoomFor hr.units0 ?_))
  rw [cmpInfo_NotEq]
  dsimp only
  refine wpAny_bind (J.type.here (wpAny_bind (J2.type.here ?_)))
  rw [show (Value.ref C != Value.ref C) = false from by simp]
  simp only [Bool.false_eq_true, if_false]
  refine wpAny_bind (wpAny_pure ?_)
  simp only [Bool.false_eq_true, if_false]
  unfold tryCompare
  refine wpAny_bind (wpAny_bind (if_builtin I.kIn J hn SF.ne (wpAny_call (codeAny_call_builtin SF.ne.plain PySem.F.cmpEntry_ne ?_))))
  refine PySem.W.check_slot PySem.F.cmpKind_ne PySem.F.cmpSplit_ne isub (PySem.F.cmpArgs_ne _ _) ?_
  refine wpAny_mono body (fun fin s' z => ?_) fun _ _ z => z
  obtain ⟨r, er, q, hr'⟩ := z
  subst er
  cases r
  case notImplemented => exact absurd rfl hr'
  all_goals exact wpAny_pure (wpAny_pure q)
/-- the class at C compares by a def of its own -/
structure Deq (P : Program) (w : World) (K : PySem.W.Frag) (mg : Str → Option Value) (base : Heap) (C : Addr) (k : Nat) (ps : List Str) (sp : Sp) : Prop where
  ex : ∃ (f : Addr) (fd : FuncData), FnOk P w K mg base CX0 k f fd ps sp ∧ PySem.W.findIn K (.ref C) "__eq__" = some (some (.ref f)) ∧ PySem.W.isFn K (.ref f) = true ∧ Binds K fd ps []
theorem op_eqO (D : Deq X.prog X.w X.K X.mg X.base C k ps sp) (hr : Room k X.A) : OpR X (compareOp .Eq) (rEqI X.K C sp) := by
  obtain ⟨f, fd, F, hs, hf, hb⟩ := D.ex
  exact op_eqI' F hs hf hb hr
theorem op_neO (D : Deq X.prog X.w X.K X.mg X.base C k ps sp) (hr : Room (k + 1) X.A) (hn : PySem.W.findIn X.K (.ref C) "__ne__" = some (some (.builtin "object.__ne__"))) (hm : PySem.W.mroIn X.K C (.type "object") = some true) :
    OpR X (compareOp .NotEq) (rNeI C sp) := by
  obtain ⟨f, fd, F, hs, hf, hb⟩ := D.ex
  exact op_neI' F hs hf hb hr hn hm
end
end Fm

/-! ## FmData -/
set_option Elab.async false
set_option maxRecDepth 100000
set_option maxHeartbeats 4000000
/-! Data as trees over heaps; names; what as_tuples makes of data. -/
namespace Fm
open PySem L2
section
variable {K : PySem.W.Frag} {H H' H1 H2 N M : Hp}
theorem same_sqT {a : Addr} {xs : List V} (e : Same H H') (h : SqT K H a xs) : SqT K H' a xs := by
  rcases h with (h | ⟨o, h⟩) | h
  · exact .inl (.inl (e _ _ h))
  · exact .inl (.inr ⟨o, e _ _ h⟩)
  · exact .inr h
mutual
theorem dp_mono (e : Same H H') : ∀ (d : PyData) (v : V), Dp K H v d → Dp K H' v d
  | .none, _, h => by cases h; exact .non
  | .bool b, _, h => by cases h; exact .bl b
  | .int i, _, h => by cases h; exact .int i
  | .str x, _, h => by cases h; exact .str x
  | .list ds, _, h => by
    cases h with
    | lst hs ha => exact .lst (e.seq hs) (dpA_mono e ds _ ha)
  | .tuple ds, _, h => by
    cases h with
    | tup hs ha => exact .tup (same_sqT e hs) (dpA_mono e ds _ ha)
  | .dict _, _, h => by cases h
theorem dpA_mono (e : Same H H') : ∀ (ds : List PyData) (vs : List V), DpAll K H vs ds → DpAll K H' vs ds
  | [], _, h => by cases h; exact .nil
  | d :: ds, _, h => by
    cases h with
    | cons h1 h2 => exact .cons (dp_mono e d _ h1) (dpA_mono e ds _ h2)
end
theorem dpA_len : ∀ {ds : List PyData} {vs : List V}, DpAll K H vs ds → vs.length = ds.length
  | [], _, h => by cases h; rfl
  | d :: ds, _, h => by
    cases h with
    | cons h1 h2 => rw [List.length_cons, List.length_cons, dpA_len h2]
theorem dpA_at : ∀ {ds : List PyData} {vs : List V} {i : Nat} {v : V}, DpAll K H vs ds → vs[i]? = some v → ∃ d, ds[i]? = some d ∧ Dp K H v d
  | [], _, i, v, h, e => by cases h; simp at e
  | d :: ds, _, 0, v, h, e => by
    cases h with
    | cons h1 h2 =>
      simp at e
      subst e
      exact ⟨d, rfl, h1⟩
  | d :: ds, _, i + 1, v, h, e => by
    cases h with
    | cons h1 h2 =>
      simp at e
      obtain ⟨z, q1, q2⟩ := dpA_at h2 e
      exact ⟨z, by simpa using q1, q2⟩
theorem dpA_snoc : ∀ {ds : List PyData} {vs : List V} {d : PyData} {v : V}, DpAll K H vs ds → Dp K H v d → DpAll K H (vs ++ [v]) (ds ++ [d])
  | [], _, d, v, h, q => by cases h; exact .cons q .nil
  | c :: ds, _, d, v, h, q => by
    cases h with
    | cons h1 h2 => exact .cons h1 (dpA_snoc h2 q)
theorem dpA_strs : ∀ (xs : List Str), DpAll K H (xs.map V.str) (xs.map PyData.str)
  | [] => .nil
  | x :: xs => .cons (.str x) (dpA_strs xs)
theorem dpA_strs_inv : ∀ {xs : List Str} {vs : List V}, DpAll K H vs (xs.map PyData.str) → vs = xs.map V.str
  | [], _, h => by cases h; rfl
  | x :: xs, _, h => by
    cases h with
    | cons h1 h2 =>
      cases h1
      rw [dpA_strs_inv h2]
      rfl
/-! ### what is new -/
/-- N holds things that are new behind H, as they stand in H' -/
def Fresh (H H' N : Hp) : Prop := ∀ a o, N a = some o → H a = none ∧ H' a = some o
def uni (N M : Hp) : Hp := fun a => match N a with
  | some o => some o
  | none => M a
def nil0 : Hp := fun _ => none
theorem fresh_nil : Fresh H H' nil0 := fun _ _ h => by cases h
theorem same_uni : Same N (uni N M) := fun a o h => by
  unfold uni
  rw [h]
theorem uni_or {a : Addr} {o : HO} (h : uni N M a = some o) : N a = some o ∨ (N a = none ∧ M a = some o) := by
  unfold uni at h
  cases q : N a with
  | some u =>
    rw [q] at h
    exact .inl h
  | none =>
    rw [q] at h
    exact .inr ⟨rfl, h⟩
theorem fresh_uni (f : Fresh H H1 N) (g : Fresh H1 H2 M) (s : Same H H1) (t : Same H1 H2) : Fresh H H2 (uni N M) := fun a o h => by
  rcases uni_or h with h | ⟨_, h⟩
  · exact ⟨(f a o h).1, t _ _ (f a o h).2⟩
  · exact ⟨s.free (g a o h).1, (g a o h).2⟩
theorem same_uni2 (f : Fresh H H1 N) (g : Fresh H1 H2 M) : Same M (uni N M) := fun a o h => by
  unfold uni
  cases q : N a with
  | none => exact h
  | some u =>
    have z := (f a u q).2
    rw [(g a o h).1] at z
    cases z
theorem fresh_back (s : Same H H1) (f : Fresh H1 H2 N) : Fresh H H2 N := fun a o h => ⟨s.free (f a o h).1, (f a o h).2⟩
theorem fresh_new (f : Fresh H H1 N) (s : Same H H1) {p : Addr} (o : HO) (hp : H1 p = none) : Fresh H (upd H1 p o) (upd N p o) := fun a u h => by
  by_cases e : a = p
  · subst e
    rw [upd_same] at h ⊢
    exact ⟨s.free hp, h⟩
  · rw [upd_ne e] at h ⊢
    exact f a u h
theorem same_freshNew (f : Fresh H H1 N) {p : Addr} (o : HO) (hp : H1 p = none) : Same N (upd N p o) := fun a u h => by
  have e : a ≠ p := fun z => by
    have q := (f a u h).2
    rw [z, hp] at q
    cases q
  rw [upd_ne e]
  exact h
/-- what is spoken of, and what is new, as one part of the heap -/
theorem grow_fresh {F : Hp} (s : Same F H) (t : Same H H') (f : Fresh H H' N) : Grow F H (uni F N) H' := by
  refine ⟨same_uni, fun a o h => ?_, fun a o h1 h2 => ⟨?_, t _ _ h2⟩⟩
  · rcases uni_or h with h | ⟨_, h⟩
    · exact t _ _ (s _ _ h)
    · exact (f a o h).2
  · unfold uni
    rw [h1]
    cases q : N a with
    | none => rfl
    | some u =>
      have z := (f a u q).1
      rw [h2] at z
      cases z
theorem same_grow {F : Hp} (s : Same F H) (f : Fresh H H' N) : Same N (uni F N) := fun a o h => by
  unfold uni
  cases q : F a with
  | none => exact h
  | some u =>
    have z := s a u q
    rw [(f a o h).1] at z
    cases z
theorem bag_same {F : Hp} {b : Addr} (B : Bag F H b) (t : Same H H') : Bag F H' b := by
  obtain ⟨s, fb, cl, ns, p, g, z, c, h, e1, e2, e3, e4, r⟩ := B
  exact ⟨s.trans t, fb, cl, ns, p, g, z, c, h, e1, e2, t _ _ e3, t _ _ e4, r⟩
end
/-! ### rows as tuples -/
mutual
def tupd : PyData → PyData
  | .list xs => .tuple (tupdL xs)
  | .tuple xs => .tuple (tupdL xs)
  | .none => .none
  | .bool b => .bool b
  | .int i => .int i
  | .str s => .str s
  | .dict kvs => .dict kvs
def tupdL : List PyData → List PyData
  | [] => []
  | d :: ds => tupd d :: tupdL ds
end
theorem tupdL_map : ∀ ds : List PyData, tupdL ds = ds.map tupd
  | [] => rfl
  | d :: ds => by
    show tupd d :: tupdL ds = tupd d :: ds.map tupd
    rw [tupdL_map ds]
/-- data of at most so many rows one in the other, none of them long -/
inductive Dn : Nat → PyData → Prop
  | none (n : Nat) : Dn (n + 1) .none
  | bool (n : Nat) (b : Bool) : Dn (n + 1) (.bool b)
  | int (n : Nat) (i : Int) : Dn (n + 1) (.int i)
  | str (n : Nat) (s : Str) : Dn (n + 1) (.str s)
  | list (n : Nat) (ds : List PyData) : (∀ d ∈ ds, Dn n d) → ds.length ≤ 100000 → Dn (n + 1) (.list ds)
  | tuple (n : Nat) (ds : List PyData) : (∀ d ∈ ds, Dn n d) → ds.length ≤ 100000 → Dn (n + 1) (.tuple ds)
theorem dn_strs {n : Nat} {xs : List Str} (h : xs.length ≤ 100000) : (∀ d ∈ xs.map PyData.str, Dn (n + 1) d) ∧ (xs.map PyData.str).length ≤ 100000 := by
  refine ⟨fun d m => ?_, by rw [List.length_map]; exact h⟩
  obtain ⟨x, _, rfl⟩ := List.mem_map.mp m
  exact .str n x
theorem bl_map {α : Type} (f : α → Bool) (xs : List α) : (xs.map fun c => V.bl (f c)) = (xs.map f).map V.bl := by
  rw [List.map_map]
  rfl
theorem flat_strs (xs : List Str) : (xs.map V.str).all flatV = true := by
  rw [List.all_map]
  exact List.all_eq_true.mpr fun _ _ => rfl
theorem inV_str (n : Str) (xs : List Str) : inV (.str n) (xs.map V.str) = decide (n ∈ xs) := by
  unfold inV
  rw [List.any_map]
  by_cases h : n ∈ xs
  · rw [decide_eq_true h]
    exact List.any_eq_true.mpr ⟨n, h, beq_self_eq_true n⟩
  · rw [decide_eq_false h]
    refine List.any_eq_false.mpr fun y m => ?_
    show ¬ (y == n) = true
    intro e
    rw [eq_of_beq e] at m
    exact h m
theorem nodup_take {α : Type} {l : List α} (hN : l.Nodup) {i : Nat} {x : α} (h : l[i]? = some x) : x ∉ l.take i := fun m => by
  obtain ⟨j, hj, e⟩ := List.getElem_of_mem m
  have q : l[j]? = some x := by
    rw [List.length_take] at hj
    rw [List.getElem_take] at e
    rw [← e]
    exact List.getElem?_eq_getElem _
  have z := nd_ix hN q h
  rw [List.length_take] at hj
  omega
/-! ### rules whose K is told, for the inside of a comprehension -/
section
variable {X : Cx} {K : PySem.W.Frag}
theorem ixK_seq (h : X.K = K := by rfl) : IxR X (rIx K) := by subst h; exact ix_seq
theorem ixK_list (h : X.K = K := by rfl) : IxR X (rIxL K) := by subst h; exact ix_list
theorem ixK_tup (h : X.K = K := by rfl) : IxR X (rIxT K) := by subst h; exact ix_tup
theorem cK_len_seq (h : X.K = K := by rfl) : CallR X (.builtin "len") (fun xs H Q => ∃ p ys, xs = [.ref p] ∧ (SqL K H p ys ∨ SqT K H p ys) ∧ Q (.int ys.length) H) := by subst h; exact call_len_seq
theorem cK_isi (h : X.K = K := by rfl) : CallR X (.builtin "isinstance") (rIsi K) := by subst h; exact call_isi
theorem cK_isiT (h : X.K = K := by rfl) : CallR X (.builtin "isinstance") (rIsiT K) := by subst h; exact call_isiT
theorem cK_list_of (h : X.K = K := by rfl) : CallR X (.type "list") (fun xs H Q => ∃ p ys, xs = [.ref p] ∧ (SqL K H p ys ∨ SqT K H p ys) ∧ ∀ l, H l = none → Q (.ref l) (upd H l (.lst ys))) := by subst h; exact call_list_of
theorem cK_tuple_of (h : X.K = K := by rfl) : CallR X (.type "tuple") (fun xs H Q => ∃ p ys, xs = [.ref p] ∧ ((SqL K H p ys ∧ ∀ l, H l = none → Q (.ref l) (upd H l (.tup ys))) ∨ (SqT K H p ys ∧ Q (.ref p) H))) := by subst h; exact call_tuple_of
end
/-! ### names -/
def isNm (s : Str) : Bool := decide (1 ≤ s.length) && decide (s.length ≤ 8) && s.cps.toList.all fun c => decide (97 ≤ c) && decide (c ≤ 122)
def letters : Str := "abcdefghijklmnopqrstuvwxyz"
theorem letters_list : letters.cps.toList = List.range' 97 26 := by decide +kernel
theorem letters_mem (c : Nat) : decide (c ∈ letters.cps.toList) = (decide (97 ≤ c) && decide (c ≤ 122)) := by
  rw [letters_list]
  by_cases h : c ∈ List.range' 97 26
  · rw [decide_eq_true h]
    have q := List.mem_range'_1.mp h
    simp
    omega
  · rw [decide_eq_false h]
    have q : ¬ (97 ≤ c ∧ c < 97 + 26) := fun z => h (List.mem_range'_1.mpr z)
    symm
    rw [← Bool.decide_and]
    exact decide_eq_false (by omega)
end Fm

/-! ## FmTree -/
set_option Elab.async false
set_option maxRecDepth 100000
set_option maxHeartbeats 4000000
/-! Any tree of lists and tuples, with the two small dicts that a law's odd things have. -/
namespace Fm
open PySem L2
def dictD (b : Bool) : PyData := .dict (if b = true then [(.str "a", .list [.int 1])] else [])
/-- the two dicts -/
def Dl (H : Hp) (a : Addr) (b : Bool) : Prop := if b = true then ∃ l, H a = some (.dK [(Sum.inr "a", .ref l)]) ∧ H l = some (.lst [.int 1]) else H a = some (.dK [])
mutual
/-- at v stands the tree d, its rows as they are -/
inductive Tp (H : Hp) : V → PyData → Prop
  | non : Tp H .non .none
  | bl (b : Bool) : Tp H (.bl b) (.bool b)
  | int (i : Int) : Tp H (.int i) (.int i)
  | str (x : Str) : Tp H (.str x) (.str x)
  | lst {a : Addr} {xs : List V} {ds : List PyData} : H a = some (.lst xs) → TpAll H xs ds → Tp H (.ref a) (.list ds)
  | tup {a : Addr} {xs : List V} {ds : List PyData} : H a = some (.tup xs) → TpAll H xs ds → Tp H (.ref a) (.tuple ds)
  | dct {a : Addr} (b : Bool) : Dl H a b → Tp H (.ref a) (dictD b)
inductive TpAll (H : Hp) : List V → List PyData → Prop
  | nil : TpAll H [] []
  | cons {v : V} {vs : List V} {d : PyData} {ds : List PyData} : Tp H v d → TpAll H vs ds → TpAll H (v :: vs) (d :: ds)
end
section
variable {K : PySem.W.Frag} {H H' : Hp}
theorem dl_same {a : Addr} {b : Bool} (e : Same H H') (h : Dl H a b) : Dl H' a b := by
  cases b with
  | true =>
    obtain ⟨l, h1, h2⟩ := (show ∃ l, H a = some (.dK [(Sum.inr "a", .ref l)]) ∧ H l = some (.lst [.int 1]) from h)
    exact (show ∃ l, H' a = some (.dK [(Sum.inr "a", .ref l)]) ∧ H' l = some (.lst [.int 1]) from ⟨l, e _ _ h1, e _ _ h2⟩)
  | false => exact e _ _ (show H a = some (.dK []) from h)
mutual
theorem Tp.same (e : Same H H') : ∀ {d : PyData} {v : V}, Tp H v d → Tp H' v d
  | .none, _, h => by cases h; exact .non
  | .bool b, _, h => by cases h; exact .bl b
  | .int i, _, h => by cases h; exact .int i
  | .str x, _, h => by cases h; exact .str x
  | .list ds, _, h => by
    cases h with
    | lst hs ha => exact .lst (e _ _ hs) (TpAll.same e ha)
  | .tuple ds, _, h => by
    cases h with
    | tup hs ha => exact .tup (e _ _ hs) (TpAll.same e ha)
  | .dict _, _, h => by
    cases h with
    | dct b hb => exact .dct b (dl_same e hb)
theorem TpAll.same (e : Same H H') : ∀ {ds : List PyData} {vs : List V}, TpAll H vs ds → TpAll H' vs ds
  | [], _, h => by cases h; exact .nil
  | d :: ds, _, h => by
    cases h with
    | cons h1 h2 => exact .cons (Tp.same e h1) (TpAll.same e h2)
end
theorem TpAll.len : ∀ {ds : List PyData} {vs : List V}, TpAll H vs ds → vs.length = ds.length
  | [], _, h => by cases h; rfl
  | d :: ds, _, h => by
    cases h with
    | cons h1 h2 => rw [List.length_cons, List.length_cons, h2.len]
theorem TpAll.at : ∀ {ds : List PyData} {vs : List V} {i : Nat} {v : V}, TpAll H vs ds → vs[i]? = some v → ∃ d, ds[i]? = some d ∧ Tp H v d
  | [], _, i, v, h, e => by cases h; simp at e
  | d :: ds, _, 0, v, h, e => by
    cases h with
    | cons h1 h2 =>
      simp at e
      subst e
      exact ⟨d, rfl, h1⟩
  | d :: ds, _, i + 1, v, h, e => by
    cases h with
    | cons h1 h2 =>
      simp at e
      obtain ⟨z, q1, q2⟩ := h2.at e
      exact ⟨z, by simpa using q1, q2⟩
theorem TpAll.to : ∀ {ds : List PyData} {vs : List V} {i : Nat} {d : PyData}, TpAll H vs ds → ds[i]? = some d → ∃ v, vs[i]? = some v ∧ Tp H v d
  | [], _, _, _, _, e => by simp at e
  | _ :: _, _, 0, _, h, e => by
    cases h with
    | cons h1 h2 =>
      cases e
      exact ⟨_, rfl, h1⟩
  | _ :: _, _, i + 1, _, h, e => by
    cases h with
    | cons h1 h2 =>
      rw [List.getElem?_cons_succ] at e
      obtain ⟨v, h3, h4⟩ := h2.to e
      exact ⟨v, by rw [List.getElem?_cons_succ]; exact h3, h4⟩
theorem TpAll.app : ∀ {ds es : List PyData} {vs us : List V}, TpAll H vs ds → TpAll H us es → TpAll H (vs ++ us) (ds ++ es)
  | [], es, _, us, h, g => by cases h; exact g
  | d :: ds, es, _, us, h, g => by
    cases h with
    | cons h1 h2 => exact .cons h1 (h2.app g)
theorem TpAll.take : ∀ {ds : List PyData} {vs : List V} (n : Nat), TpAll H vs ds → TpAll H (vs.take n) (ds.take n)
  | [], _, n, h => by cases h; simp; exact .nil
  | d :: ds, _, 0, h => .nil
  | d :: ds, _, n + 1, h => by
    cases h with
    | cons h1 h2 => exact .cons h1 (h2.take n)
theorem TpAll.drop : ∀ {ds : List PyData} {vs : List V} (n : Nat), TpAll H vs ds → TpAll H (vs.drop n) (ds.drop n)
  | [], _, n, h => by cases h; simp; exact .nil
  | d :: ds, _, 0, h => h
  | d :: ds, _, n + 1, h => by
    cases h with
    | cons h1 h2 => exact h2.drop n
theorem TpAll.rep {vs : List V} {ds : List PyData} (h : TpAll H vs ds) : ∀ c : Nat, TpAll H (List.replicate c vs).flatten (List.replicate c ds).flatten
  | 0 => .nil
  | c + 1 => by
    rw [List.replicate_succ, List.replicate_succ, List.flatten_cons, List.flatten_cons]
    exact h.app (h.rep c)
theorem TpAll.set : ∀ {ds : List PyData} {vs : List V} (i : Nat) {v : V} {d : PyData}, TpAll H vs ds → Tp H v d → TpAll H (vs.set i v) (ds.set i d)
  | [], _, i, v, d, h, _ => by cases h; exact .nil
  | _ :: _, _, 0, v, d, h, g => by
    cases h with
    | cons h1 h2 => exact .cons g h2
  | _ :: _, _, i + 1, v, d, h, g => by
    cases h with
    | cons h1 h2 => exact .cons h1 (h2.set i g)
theorem TpAll.strs : ∀ (xs : List Str), TpAll H (xs.map V.str) (xs.map PyData.str)
  | [] => .nil
  | x :: xs => .cons (.str x) (TpAll.strs xs)
theorem TpAll.ints : ∀ (xs : List Int), TpAll H (xs.map V.int) (xs.map PyData.int)
  | [] => .nil
  | x :: xs => .cons (.int x) (TpAll.ints xs)
/-! ### what a tree is: its type, its parts -/
def tyD : PyData → String
  | .none => "NoneType"
  | .bool _ => "bool"
  | .int _ => "int"
  | .str _ => "str"
  | .list _ => "list"
  | .tuple _ => "tuple"
  | .dict _ => "dict"
theorem Tp.ty {v : V} {d : PyData} (h : Tp H v d) : TyX K H v (.type (tyD d)) := by
  cases h with
  | non => exact .base .non
  | bl b => exact .base (.bl b)
  | int i => exact .base (.int i)
  | str s => exact .base (.str s)
  | lst h _ => exact .base (.lst h)
  | tup h _ => exact .base (.tup h)
  | dct b h =>
    cases b with
    | true =>
      obtain ⟨l, h1, h2⟩ := (show ∃ l, H _ = some (.dK [(Sum.inr "a", .ref l)]) ∧ H l = some (.lst [.int 1]) from h)
      exact .base (.dK h1)
    | false => exact .base (.dK (show H _ = some (.dK []) from h))
/-- isinstance(thing, T) by the type's name -/
def isD (n : String) (d : PyData) : Bool := (kitB (tyD d) n).getD false
theorem kit_d {d : PyData} {n : String} (hn : n ∈ ["str", "int", "bool", "list", "tuple", "dict"]) : kitB (tyD d) n = some (isD n d) := by
  unfold isD
  simp only [List.mem_cons, List.mem_nil_iff, or_false] at hn
  cases d <;> (rcases hn with rfl | rfl | rfl | rfl | rfl | rfl <;> (unfold tyD; rfl))
def isRowD : PyData → Bool
  | .list _ => true
  | .tuple _ => true
  | _ => false
theorem kitAny_row {d : PyData} : PySem.W.kitAny K (.type (tyD d)) [.type "list", .type "tuple"] = some (isRowD d) := by
  have go : ∀ n b1 b2, kitB n "list" = some b1 → kitB n "tuple" = some b2 → PySem.W.kitAny K (.type n) [.type "list", .type "tuple"] = some (b1 || b2) := fun n b1 b2 h1 h2 => by
    refine kitAny_cons (b := b1) (kit_ty h1) (fun z => ?_) fun z => by rw [z]; rfl
    rw [z, Bool.false_or]
    exact kitAny_cons (b := b2) (kit_ty h2) (fun y => by rw [y]; rfl) fun y => by rw [y]
  cases d with
  | none => exact go "NoneType" false false (by decide +kernel) (by decide +kernel)
  | bool _ => exact go "bool" false false (by decide +kernel) (by decide +kernel)
  | int _ => exact go "int" false false (by decide +kernel) (by decide +kernel)
  | str _ => exact go "str" false false (by decide +kernel) (by decide +kernel)
  | list _ => exact go "list" true false (by decide +kernel) (by decide +kernel)
  | tuple _ => exact go "tuple" false true (by decide +kernel) (by decide +kernel)
  | dict _ => exact go "dict" false false (by decide +kernel) (by decide +kernel)
/-- the parts of a row -/
def partsD : PyData → List PyData
  | .list ds => ds
  | .tuple ds => ds
  | _ => []
/-- a row's object -/
def Rw (H : Hp) (a : Addr) (xs : List V) : Prop := H a = some (.lst xs) ∨ H a = some (.tup xs)
theorem Rw.same {a : Addr} {xs : List V} (h : Rw H a xs) (s : Same H H') : Rw H' a xs := h.imp (s _ _) (s _ _)
theorem Tp.row {v : V} {d : PyData} (h : Tp H v d) (hr : isRowD d = true) : ∃ a xs, v = .ref a ∧ Rw H a xs ∧ TpAll H xs (partsD d) := by
  cases h with
  | lst h1 h2 => exact ⟨_, _, rfl, .inl h1, h2⟩
  | tup h1 h2 => exact ⟨_, _, rfl, .inr h1, h2⟩
  | dct b _ => cases hr
  | _ => cases hr
theorem Tp.tuple {v : V} {ds : List PyData} (h : Tp H v (.tuple ds)) : ∃ a xs, v = .ref a ∧ H a = some (.tup xs) ∧ TpAll H xs ds := by
  cases h with
  | tup h1 h2 => exact ⟨_, _, rfl, h1, h2⟩
theorem Tp.list {v : V} {ds : List PyData} (h : Tp H v (.list ds)) : ∃ a xs, v = .ref a ∧ H a = some (.lst xs) ∧ TpAll H xs ds := by
  cases h with
  | lst h1 h2 => exact ⟨_, _, rfl, h1, h2⟩
theorem Tp.strI {v : V} {s : Str} (h : Tp H v (.str s)) : v = .str s := by cases h; rfl
theorem Tp.intI {v : V} {s : Int} (h : Tp H v (.int s)) : v = .int s := by cases h; rfl
theorem Tp.blI {v : V} {s : Bool} (h : Tp H v (.bool s)) : v = .bl s := by cases h; rfl
/-! ### a place of the heap that is left open -/
def cut (F : Hp) (r : Addr) : Hp := fun a => if a = r then none else F a
section
variable {F G M : Hp} {r : Addr} {o : HO}
theorem cut_at : cut F r r = none := if_pos rfl
theorem cut_ne {a : Addr} (n : a ≠ r) : cut F r a = F a := if_neg n
theorem cut_upd (h : F r = some o) : upd (cut F r) r o = F := funext fun a => by
  by_cases q : a = r
  · rw [q, upd_same, h]
  · rw [upd_ne q]
    exact if_neg q
theorem same_cut (s : Same G F) (h : G r = none) : Same G (cut F r) := fun a u e => by
  show (if a = r then none else F a) = some u
  rw [if_neg fun q => by rw [q, h] at e; cases e]
  exact s a u e
theorem cut_sub : Same (cut F r) F := fun a u e => by
  by_cases q : a = r
  · rw [q, cut_at] at e
    cases e
  · rw [cut_ne q] at e
    exact e
end
/-! ### a list that is filled beside -/
theorem Grow.junk {F H F' H' : Hp} {D : Addr} (g : Grow F H F' H') (f : F' D = none) (h : H D = none) (o : HO) : Grow F H F' (upd H' D o) :=
  ⟨g.ff, same_put g.fh o f, fun a u e1 e2 => by
    obtain ⟨z1, z2⟩ := g.hh a u e1 e2
    have n := ne_of_none e2 h
    rw [upd_ne n]
    exact ⟨z1, z2⟩⟩
/-- D is filled with ys while F grows to F' -/
structure Acc (F H : Hp) (D : Addr) (F' H' : Hp) (ys : List V) : Prop where
  g : Grow F H F' H'
  no : F' D = none
  at_ : H' D = some (.lst ys)
  new : H D = none
theorem Acc.start {F : Hp} (s : Same F H) {D : Addr} (h : H D = none) : Acc F H D F (upd H D (.lst [])) [] := ⟨(Grow.refl s).junk (s.free h) h _, s.free h, upd_same, h⟩
theorem Acc.then {F F1 H1 F2 H2 : Hp} {D : Addr} {ys : List V} (a : Acc F H D F1 H1 ys) (g : Grow F1 H1 F2 H2) : Acc F H D F2 H2 ys := by
  obtain ⟨z1, z2⟩ := g.hh D _ a.no a.at_
  exact ⟨a.g.trans g, z1, z2, a.new⟩
theorem Acc.add {F F1 H1 : Hp} {D : Addr} {ys : List V} (a : Acc F H D F1 H1 ys) (y : List V) : Acc F H D F1 (upd H1 D (.lst y)) y := ⟨a.g.junk a.no a.new _, a.no, upd_same, a.new⟩
theorem TpAll.snoc {ds : List PyData} {vs : List V} {d : PyData} {v : V} (h : TpAll H vs ds) (q : Tp H v d) : TpAll H (vs ++ [v]) (ds ++ [d]) := h.app (.cons q .nil)
/-- what is filled becomes a part of what is spoken of -/
theorem Acc.keep {F F1 H1 : Hp} {D : Addr} {ys : List V} (a : Acc F H D F1 H1 ys) : Grow F H (upd F1 D (.lst ys)) H1 := by
  refine ⟨a.g.ff.trans (same_new _ a.no), fun b o e => ?_, fun b o e1 e2 => ?_⟩
  · by_cases q : b = D
    · rw [q, upd_same] at e
      rw [q, a.at_]
      exact e
    · rw [upd_ne q] at e
      exact a.g.fh _ _ e
  · obtain ⟨z1, z2⟩ := a.g.hh b o e1 e2
    rw [upd_ne (ne_of_none e2 a.new)]
    exact ⟨z1, z2⟩
theorem Tp.dict {v : V} {b : Bool} (h : Tp H v (dictD b)) : ∃ a, v = .ref a ∧ Dl H a b := by
  generalize e : dictD b = d at h
  cases h with
  | dct c hc =>
    have z : c = b := by
      cases b <;> cases c <;> first | rfl | (simp [dictD] at e)
    rw [z] at hc
    exact ⟨_, rfl, hc⟩
  | non => exact PyData.noConfusion e
  | bl _ => exact PyData.noConfusion e
  | int _ => exact PyData.noConfusion e
  | str _ => exact PyData.noConfusion e
  | lst _ _ => exact PyData.noConfusion e
  | tup _ _ => exact PyData.noConfusion e
/-! ### how large a tree is -/
mutual
def dep : PyData → Nat
  | .list ds => 1 + depL ds
  | .tuple ds => 1 + depL ds
  | .dict _ => 2
  | _ => 0
def depL : List PyData → Nat
  | [] => 0
  | d :: ds => max (dep d) (depL ds)
end
mutual
def siz : PyData → Nat
  | .list ds => 1 + sizL ds
  | .tuple ds => 1 + sizL ds
  | _ => 1
def sizL : List PyData → Nat
  | [] => 0
  | d :: ds => siz d + sizL ds
end
mutual
def mst : PyData → Nat
  | .list ds => mstL ds
  | .tuple ds => mstL ds
  | .str s => s.length
  | _ => 0
def mstL : List PyData → Nat
  | [] => 0
  | d :: ds => max (mst d) (mstL ds)
end
theorem dep_mem : ∀ {ds : List PyData} {d : PyData}, d ∈ ds → dep d ≤ depL ds
  | [], _, h => by cases h
  | c :: ds, d, h => by
    rcases List.mem_cons.mp h with rfl | h
    · exact Nat.le_max_left _ _
    · exact Nat.le_trans (dep_mem h) (Nat.le_max_right _ _)
theorem mst_mem : ∀ {ds : List PyData} {d : PyData}, d ∈ ds → mst d ≤ mstL ds
  | [], _, h => by cases h
  | c :: ds, d, h => by
    rcases List.mem_cons.mp h with rfl | h
    · exact Nat.le_max_left _ _
    · exact Nat.le_trans (mst_mem h) (Nat.le_max_right _ _)
theorem siz_mem : ∀ {ds : List PyData} {d : PyData}, d ∈ ds → siz d ≤ sizL ds
  | [], _, h => by cases h
  | c :: ds, d, h => by
    show siz d ≤ siz c + sizL ds
    rcases List.mem_cons.mp h with rfl | h
    · omega
    · have z := siz_mem h
      omega
theorem siz_pos : ∀ d : PyData, 1 ≤ siz d
  | .none => Nat.le_refl _
  | .bool _ => Nat.le_refl _
  | .int _ => Nat.le_refl _
  | .str _ => Nat.le_refl _
  | .dict _ => Nat.le_refl _
  | .list ds => by show 1 ≤ 1 + sizL ds; omega
  | .tuple ds => by show 1 ≤ 1 + sizL ds; omega
theorem siz_len : ∀ ds : List PyData, ds.length ≤ sizL ds
  | [] => Nat.le_refl _
  | d :: ds => by
    show ds.length + 1 ≤ siz d + sizL ds
    have z := siz_len ds
    have y := siz_pos d
    omega
/-- a tree that is not too large -/
structure Bd (n s l : Nat) (d : PyData) : Prop where
  dp : dep d ≤ n
  sz : siz d ≤ s
  ms : mst d ≤ l
theorem dep_row {d : PyData} (h : isRowD d = true) : dep d = 1 + depL (partsD d) := by
  cases d <;> first | rfl | cases h
theorem siz_row {d : PyData} (h : isRowD d = true) : siz d = 1 + sizL (partsD d) := by
  cases d <;> first | rfl | cases h
theorem mst_row {d : PyData} (h : isRowD d = true) : mst d = mstL (partsD d) := by
  cases d <;> first | rfl | cases h
theorem Bd.part {n s l : Nat} {d c : PyData} (b : Bd (n + 1) s l d) (h : isRowD d = true) (m : c ∈ partsD d) : Bd n s l c := by
  have z1 := b.dp
  have z2 := b.sz
  have z3 := b.ms
  rw [dep_row h] at z1
  rw [siz_row h] at z2
  rw [mst_row h] at z3
  have y1 := dep_mem m
  have y2 := siz_mem m
  have y3 := mst_mem m
  exact ⟨by omega, by omega, by omega⟩
theorem Bd.len {n s l : Nat} {d : PyData} (b : Bd n s l d) (h : isRowD d = true) : (partsD d).length < s := by
  have z2 := b.sz
  rw [siz_row h] at z2
  have y := siz_len (partsD d)
  omega
theorem Bd.up {n s l n' s' l' : Nat} {d : PyData} (b : Bd n s l d) (h1 : n ≤ n') (h2 : s ≤ s') (h3 : l ≤ l') : Bd n' s' l' d := ⟨Nat.le_trans b.dp h1, Nat.le_trans b.sz h2, Nat.le_trans b.ms h3⟩
theorem Bd.row0 {s l : Nat} {d : PyData} (b : Bd 0 s l d) : isRowD d = false := by
  have z := b.dp
  cases e : isRowD d with
  | false => rfl
  | true =>
    rw [dep_row e] at z
    omega
end
end Fm

/-! ## FmExc -/
set_option Elab.async false
set_option maxRecDepth 100000
set_option maxHeartbeats 4000000
/-! Own errors that hold a field: isinstance of a caught one, its field, raised by keyword, raised without arguments. -/
namespace Fm
open PySem PySem.Spec PySem.Calls PyProof.Rows
section
variable {prog : Program} {w : World} {A : Around} {E : Value → Shared → Prop} {s : Shared} {K : PySem.W.Frag} {x D : Addr} {ox : Obj} {od : Option Obj}
theorem find_data {a g : Value} {nm : Str} (hc : (PySem.W.clsIn K D).isSome = true) (h1 : PySem.W.findIn K (.ref D) nm = some (some a)) (h2 : PySem.W.specialIn K a "__get__" = some (some g)) (h3 : PySem.W.takesIn K a = some true) :
    PySem.W.findObj K D od nm = some (.bind g a) := by
  cases e : PySem.W.clsIn K D with
  | none => rw [e] at hc; cases hc
  | some cd => unfold PySem.W.findObj; simp [e, h1, h2, h3]
/-- e.__class__ of an error, with a dict or without -/
theorem err_class {Q : Option Value → Shared → Prop} (C : L2.ExcC K D) (X : K.In s.heap) (I : PySem.W.InstAt s.heap x ox D od) (h : Q (some (.ref D)) { s with toks := s.toks + 1 }) : wpAny (model prog w) A (getAttr? (.ref x) "__class__") Q E s := by
  have ff : PySem.W.findObj K D od "__class__" = some (.bind (.builtin "getset_descriptor.__get__") (.builtin "object.__class__")) := find_data (by obtain ⟨cd, e, _⟩ := PySem.W.any_some C.hd; rw [e]; rfl) C.ha C.hn C.ht
  obtain ⟨hp, g, d, t, os⟩ := s
  have l0 := I.type (M := model prog w)
  have l1 := PySem.W.looks_findIn (M := model prog w) X C.hg
  have l2 := PySem.W.looks_findIn (M := model prog w) X C.hk
  have l3 := PySem.W.looks_find (M := model prog w) X I ff
  have ln : PySem.W.Looks (model prog w) hp (isInstance (.ref x) (.type "BaseException")) true := l0.andThen (PySem.W.looks_subIn X C.hs)
  have n2 : (Value.builtin "BaseException.__getattribute__" == Value.builtin "object.__getattribute__") = false := by decide +kernel
  have n1 : (onTheHeap (Value.ref D) && (Value.builtin "BaseException.__getattribute__" == Value.builtin "object.__getattribute__")) = false := by rw [n2]; rfl
  have n0 : (false && onTheHeap (Value.builtin "BaseException.__getattribute__")) = false := rfl
  unfold getAttr?; unfold getAttrBy?; unfold getAttrBy
  refine wpAny_bind (wpAny_mkText ?_); refine wpAny_bind (wpAny_attempt (wpAny_holding ?_)); refine wpAny_bind (l0.at ?_); refine wpAny_bind (l1.at ?_)
  show wpAny (model prog w) _ (if (onTheHeap (Value.ref D) && (Value.builtin "BaseException.__getattribute__" == Value.builtin "object.__getattribute__")) = true then _ else _) _ _ _
  rw [n1, if_neg Bool.false_ne_true]; unfold getAttrByItsOwn; unfold hookBefore
  refine wpAny_bind ?_; rw [if_pos (show onTheHeap (Value.ref D) = true from rfl)]; refine l2.at ?_
  refine wpAny_bind (wpAny_attempt (wpAny_holding ?_)); unfold callGetattribute; rw [n0, if_neg Bool.false_ne_true]; unfold boundAndCalled
  rw [PySem.F.excAttr_ValueError.ga.bind (.ref x)]; refine wpAny_bind (wpAny_pure ?_)
  show wpAny (model prog w) _ (call (.builtin "BaseException.__getattribute__") [.ref x, .str "__class__" t]) _ _ _
  refine wpAny_call (codeAny_call_builtin PySem.F.excAttr_ValueError.ga.plain PySem.F.entry_bexc_ga ?_)
  refine @PySem.W.check_slot (model prog w) _ _ ⟨hp, g, d, t + 1, os⟩ "BaseException.__getattribute__" "BaseException" "__getattribute__" (.ref x) [.str "__class__" t] [] _ (by decide +kernel) (by decide +kernel) ln (PySem.F.args_bexc_ga (.ref x) (.str "__class__" t)) ?_
  unfold Builtin.«object.__getattribute__»
  refine wpAny_bind (wpAny_of_eq (a := ((Value.ref x : Value), [Value.str "__class__" t])) (by first | rfl | (simp only [slotArgs]; rfl)) ?_)
  refine wpAny_bind (wpAny_pure ?_); refine wpAny_bind (l0.at ?_); refine wpAny_bind (l3.at ?_)
  show wpAny (model prog w) _ (holding [Value.builtin "object.__class__"] (call (.builtin "getset_descriptor.__get__") [.builtin "object.__class__", .ref x, .ref D]) >>= ret) _ _ _
  refine wpAny_bind (wpAny_holding (wpAny_call (PySem.W.class_get (s := ⟨hp, g, d, t + 1, os⟩) (ox := ox) (od := od) X I C.hm ?_)))
  refine wpAny_pure ?_
  show wpAny (model prog w) _ (handedOut (.ref D)) _ _ _
  rw [PySem.W.handedOut_of (v := .ref D) rfl]
  first | exact wpAny_pure (wpAny_pure h) | exact wpAny_pure h | exact wpAny_pure (wpAny_bind (wpAny_pure (wpAny_pure h)))
theorem err_kit (C : L2.ExcC K D) : PySem.W.KitX K (.ref x) (.ref D) (fun h => ∃ od, PySem.W.InstAt h x ox D od) where
  ty := fun _ _ _ ⟨_, I⟩ => I.type
  it := fun _ _ X _ => by
    obtain ⟨cd, e, _⟩ := PySem.W.any_some C.hd
    unfold PySem.W.clsIn at e
    split at e
    · rename_i o1 o2 o3 o4 ho
      intro A' Q' E' s' k q
      unfold isType; unfold loadHead
      exact wpAny_bind (wpAny_loadPart (k _ _ (X _ _ ho)) (wpAny_pure q))
    · cases e
  ne := fun h tp dd its n sl X htp => by
    obtain ⟨cd, e, _⟩ := PySem.W.any_some C.hd
    refine Bool.eq_false_iff.mpr fun q => ?_
    cases Value.ref.inj (beq_iff_eq.mp q)
    unfold PySem.W.clsIn at e
    split at e
    · rename_i o1 o2 o3 o4 ho
      cases (X _ _ ho).symm.trans htp
    · cases e
  ca := fun X ⟨_, I⟩ k => err_class C X I k
end
section
open L2
variable {X : Cx}
theorem inst_err {H : Hp} {s : Shared} {a D : Addr} {oe : Obj} {d : Option Addr} (hget : s.heap.get? a = some oe) (hok : HOk X.prog X.w H s.heap) (hz : Zc (.ref D) d oe) (hf : ∃ vs, oe.data = .fields vs) (hd : ∀ dd, d = some dd → ∃ fs, H dd = some (.xd fs)) :
    ∃ od, PySem.W.InstAt s.heap a oe D od := by
  obtain ⟨vs, hv⟩ := hf
  have nc : PySem.W.notCls oe = true := by unfold PySem.W.notCls; rw [hv] <;> rfl
  cases d with
  | none => exact ⟨none, hget, hz.1, nc, by rw [hz.2]; trivial⟩
  | some dd =>
    obtain ⟨fs, e⟩ := hd dd rfl
    have z : ObjOk X.prog X.w H s.heap dd (.xd fs) := hok dd _ e
    obtain ⟨mA, hns, _⟩ := z
    obtain ⟨od, ho, _⟩ := lookIn_ns hns
    exact ⟨some od, hget, hz.1, nc, by rw [hz.2]; exact ho⟩
/-- isinstance(e, c), e the error that the suite holds: its class and its dict as they come -/
def rIsF (K : PySem.W.Frag) (a : Addr) (cls : Value) (d : Option Addr) : List V → Hp → VK → Prop := fun xs H Q => ∃ (D : Addr) (c : V) (u : Value) (b : Bool), xs = [.ref a, c] ∧ cls = .ref D ∧ ExcC K D ∧ (∀ dd, d = some dd → ∃ fs, H dd = some (.xd fs)) ∧ ClsV c u ∧ PySem.W.kitOne K (.ref D) u = some b ∧ Q (.bl b) H
theorem call_isF {a : Addr} {cls : Value} {d : Option Addr} {oe : Obj} {pn : List (Addr × Obj)} (hz : Zc cls d oe) (hf : ∃ vs, oe.data = .fields vs) : CallR (X.suite a ((a, oe) :: pn)) (.builtin "isinstance") (rIsF X.K a cls d) := by
  intro pins s σ H xs us Q I r h
  obtain ⟨D, c, u, b, rfl, rfl, C, hd, hc, e, q⟩ := h
  obtain ⟨u1, u2, rfl, r1, r2⟩ := vals2 r
  have e2 := hc.eq r2
  subst e2
  cases (show u1 = Value.ref a from r1)
  obtain ⟨hg, _⟩ := I.pin (a, oe) (List.mem_append_left _ List.mem_cons_self)
  exact PySem.W.kia_one (err_kit C) I.kIn (inst_err hg I.hok hz hf hd) e (fun z => nomatch z) fun tk => ⟨.bl b, H, I.tok tk, rfl, q⟩
/-- e.f, e the error that the suite holds -/
def tXg (K : PySem.W.Frag) (a : Addr) (cls : Value) (d : Option Addr) (f : Str) (te : TE) : TE := fun σ H Q => te σ H fun x H1 => x = .ref a ∧ ∃ (C dd : Addr) (fs : List (Str × V)) (v : V), cls = .ref C ∧ XfC K C ∧ PySem.W.findIn K (.ref C) f = some none ∧ d = some dd ∧ H1 dd = some (.xd fs) ∧ fs.lookup f = some v ∧ Q v H1
theorem pe_xg {a : Addr} {oe : Obj} {cls : Value} {d : Option Addr} {pn : List (Addr × Obj)} {e : Expr} {te : TE} {pos : Pos} {n : Str} (hz : Zc cls d oe) (hf : ∃ vs, oe.data = .fields vs) (he : PE (X.suite a ((a, oe) :: pn)) e te)
    (hb : attributeBase e n X.env (eval e X.env) = eval e X.env := by rfl) : PE (X.suite a ((a, oe) :: pn)) (.Attribute e n pos) (tXg X.K a cls d n te) := by
  refine ⟨fun pins s σ H Q I h => attr_of hb (thn (he.run pins s σ H _ I h) fun u s1 hh => ?_)⟩
  obtain ⟨x, H1, I1, rx, rfl, C, dd, fs, v, rfl, T, hno, rfl, ea, l, q⟩ := hh
  cases (show u = Value.ref a from rx)
  obtain ⟨ha, _⟩ := I1.pin (a, oe) (List.mem_append_left _ List.mem_cons_self)
  obtain ⟨vs, hd⟩ := hf
  have z : ObjOk X.prog X.w H1 s1.heap dd (.xd fs) := I1.hok dd _ ea
  obtain ⟨mA, hns, hr⟩ := z
  obtain ⟨od, ho, hl⟩ := lookIn_ns hns
  obtain ⟨u, hu, ru⟩ := RelO.some_of (v := v) (o := mA n) (by rw [← l]; exact hr n)
  exact HandSPX.exc_get I1.kIn ⟨ha, hz.1, by unfold PySem.W.notCls; rw [hd] <;> rfl, by rw [hz.2]; exact ho⟩ T.ga T.gg T.exC (PySem.W.findObj_own T.hdC hno rfl (by rw [hl, hu])) (handed_of ru) ⟨v, H1, I1.tok _, ru, q⟩
theorem pmk_own0 {C : Addr} {bmB : List Value} {B newId initId : String} {x : Str} {p pos : Pos} (F : ExcBaseFacts B newId initId bmB) (q : PySem.W.excIn X.K C bmB newId = true) (gC : X.mg x = some (.ref C))
    (kC : PySem.W.keepIn X.K (.ref C) = true) (r : Raises X (.ref C)) (hg : Gl X x := by rfl) (hdb : (x == ("__debug__" : Str)) = false := by decide) : PMk X (.Call (.Name x p) [] [] pos) (fun _ H Q => Q (.ref C) none H) := by
  intro pins s σ H Q I h
  refine wpAny_Call_Name_kw (ld_glob I hg gC ?_ hdb)
  refine PySem.W.callWith_K0 I.kIn kC ?_
  obtain ⟨bm, N, nm, qn, bs, hdct, sn, sub, ab, col, dd, k0, k1, k2, k3, k5, mN, hC, hN, hni, T⟩ := exc_obj I.kIn q
  exact wpAny_call_exc_subT F T hC hN hni (fun h' e hm => mk_of I hm r h (I.hok.gone hm.new)) (Nat.zero_le _)
end
section
open PySem.HandSPX
variable {M : Model} {A : Around} {E : Value → Shared → Prop} {h : Heap} {g : Array GenState} {d : Drawn} {t : Nat} {os : OsState}
variable {nm q : Str} {C N : Addr} {bs bm bmB : List Value} {hdct : Bool} {sn : List Str} {sub : List Value} {ab : Bool} {col : Option Bool} {dd : Option Addr} {k0 k1 k2 k3 k5 : Option Value} {B newId initId : String}
theorem check_newK (F : ExcBaseFacts B newId initId bmB) (hT : ∀ X : String, bm.contains (.type X) = bmB.contains (.type X)) {kw : List (Str × Value)} {Q : Unit → Shared → Prop}
    (hC : h.get? C = some (excClassObj nm q C N bs bm hdct sn sub ab col dd k0 k1 k2 k3 k5 newId)) (hq : Q () ⟨h, g, d, t, os⟩) : wpAny M A (checkBuiltinCall newId ⟨[.ref C], kw⟩) Q E ⟨h, g, d, t, os⟩ := by
  have c1 : (Value.ref C :: bm).contains (.type B) = true := by rw [List.contains_cons, hT, F.hasB, Bool.or_true]
  have c2 := F.noStar
  simp only [checkBuiltinCall, F.newKind, F.newSplit, F.newRow]
  repeat (first
    | refine wpAny_loadPart_at hC ?_
    | (refine wpAny_isSubtype_exc hC ?_; rw [c1])
    | refine wpAny_staticBase_exc hC ?_
    | refine wpAny_madeBy_exc hC ?_
    | simp only [bne_self_eq_false, Bool.false_eq_true, if_false]
    | wp_step)
  exact hq
end
section
open PySem.HandSPX
variable {prog : Program} {w : World} {A : Around} {E : Value → Shared → Prop} {R : Result → Shared → Prop} {h : Heap} {g : Array GenState} {d : Drawn} {t : Nat} {os : OsState}
variable {nm q : Str} {C N : Addr} {bs bm bmB : List Value} {hdct : Bool} {sn : List Str} {sub : List Value} {ab : Bool} {col : Option Bool} {dd : Option Addr} {k0 k1 k2 k3 k5 : Option Value} {B newId initId : String}
theorem new_ownK (F : ExcBaseFacts B newId initId bmB) (hT : ∀ X : String, bm.contains (.type X) = bmB.contains (.type X)) {kw : List (Str × Value)}
    (hC : h.get? C = some (excClassObj nm q C N bs bm hdct sn sub ab col dd k0 k1 k2 k3 k5 newId))
    (hq : R (.ok (.ret (.ref (h.objs.size + 1)))) ⟨(h.push (PySem.W.kdv_tup [])).push (excO C h.objs.size), g, d, t, os⟩) : codeAny (model prog w) A (.builtin newId ⟨[.ref C], kw⟩) R ⟨h, g, d, t, os⟩ := by
  have hends := F.ends
  have c1 : (Value.ref C :: bm).contains (.type B) = true := by rw [List.contains_cons, hT, F.hasB, Bool.or_true]
  have c2 : (Value.ref C :: bm).contains (.type "AttributeError") = false := by rw [List.contains_cons, hT, F.noAttr]; rfl
  have c3 : (Value.ref C :: bm).contains (.type "NameError") = false := by rw [List.contains_cons, hT, F.noName]; rfl
  refine codeAny_builtinAt F.entry ?_
  unfold Builtin.«BaseException.__new__»
  refine PySem.wpAt_bind ?_
  show PySem.wpAt _ _ _ (stack >>= _) _ _ _
  refine PySem.wpAt_bind (PySem.wpAt_stack fun p below => PySem.wpAt_of_wpAny ?_)
  wp_walk
  refine PySem.wpAt_of_wpAny ?_
  rw [F.owner]
  repeat (first
    | with_reducible refine wpAny_madeHere_exc F.canon hC ?_
    | with_reducible refine wpAny_loadPart_at hC ?_
    | (with_reducible refine wpAny_isSubtype_exc hC ?_; first | rw [c1] | rw [c2] | rw [c3])
    | wp_step)
  show R _ _
  rw [Heap.size_push]
  exact hq
theorem type_callK (F : ExcBaseFacts B newId initId bmB) (hT : ∀ X : String, bm.contains (.type X) = bmB.contains (.type X)) {kw : List (Str × Value)} {fI : Addr} {Q : Fin → Shared → Prop}
    (hC : h.get? C = some (excClassObj nm q C N bs bm hdct sn sub ab col dd k0 k1 k2 k3 k5 newId))
    (hi : PySem.W.Looks (model prog w) h (typeLookup (.ref C) "__init__") (some (.ref fI))) (hb : ∀ self, PySem.W.Looks (model prog w) h (bindSpecial (.ref fI) self) (.ref fI, [self]))
    (hq : codeAny (model prog w) A (.call (.ref fI) ⟨[.ref (h.objs.size + 1)], kw⟩)
      (fun r s' => match r with | .ok (.ret v) => v = .none ∧ Q (.done (.ret (.ref (h.objs.size + 1)))) s' | .ok _ => False | .error e => E e s') ⟨(h.push (PySem.W.kdv_tup [])).push (excO C h.objs.size), g, d, t, os⟩) :
    wpAny (model prog w) A (Builtin.«type.__call__» ⟨[.ref C], kw⟩) Q E ⟨h, g, d, t, os⟩ := by
  repeat (first
    | with_reducible refine wpAny_loadPart_at hC ?_
    | with_reducible refine wpAny_madeBy_exc hC ?_
    | wp_step)
  refine codeAny_call_builtin_code (Code.quiet_builtin _ F.quiet) (check_newK F hT hC ?_)
  refine new_ownK F hT hC ?_
  show wpAny _ _ _ _ _ _
  have k : ∀ b o, h.get? b = some o → ((h.push (PySem.W.kdv_tup [])).push (excO C h.objs.size)).get? b = some o := fun b o e => Heap.get?_push_of_some _ (Heap.get?_push_of_some _ e)
  have e1 := k _ _ hC
  have e2 : ((h.push (PySem.W.kdv_tup [])).push (excO C h.objs.size)).get? (h.objs.size + 1) = some (excO C h.objs.size) := by heap_get
  have e3 : (Value.ref C :: bm).contains (.ref C) = true := by simp
  have i1 := hi.keeps k
  have b1 := (hb (.ref (h.objs.size + 1))).keeps k
  unfold isInstance
  repeat (first
    | with_reducible refine wpAny_loadPart_at e2 ?_
    | (with_reducible refine wpAny_isSubtype_exc e1 ?_; rw [e3])
    | wp_step)
  show wpAny _ _ (typeLookup (.ref C) _) _ _ _
  refine i1.at ?_
  refine wpAny_holding (wpAny_bind (b1.at ?_))
  refine wpAny_bind (wpAny_call (codeAny_mono hq fun r s' z => ?_))
  rcases r with e | (v | _ | _ | _) <;> first | exact z | exact z.elim | skip
  obtain ⟨rfl, z⟩ := z
  first
    | exact wpAny_pure (wpAny_pure z)
    | (wp_walk; exact z)
theorem call_ownK (F : ExcBaseFacts B newId initId bmB) (hT : ∀ X : String, bm.contains (.type X) = bmB.contains (.type X)) {kw : List (Str × Value)} {fI : Addr}
    (hC : h.get? C = some (excClassObj nm q C N bs bm hdct sn sub ab col dd k0 k1 k2 k3 k5 newId))
    (hi : PySem.W.Looks (model prog w) h (typeLookup (.ref C) "__init__") (some (.ref fI))) (hb : ∀ self, PySem.W.Looks (model prog w) h (bindSpecial (.ref fI) self) (.ref fI, [self]))
    (hq : codeAny (model prog w) (A.under (.builtin "type.__call__" ⟨[.ref C], kw⟩)) (.call (.ref fI) ⟨[.ref (h.objs.size + 1)], kw⟩) (PySem.W.InitBack (h.objs.size + 1) R) ⟨(h.push (PySem.W.kdv_tup [])).push (excO C h.objs.size), g, d, t, os⟩) :
    codeAny (model prog w) A (.call (.ref C) ⟨[], kw⟩) R ⟨h, g, d, t, os⟩ := by
  have f1 := tc_lookup
  have f2 := tc_bind (.ref C)
  have hTy : (⟨h, g, d, t, os⟩ : Shared).TypeIs (.ref C) "type" := ⟨_, hC, rfl⟩
  refine codeAny_of_tree ?_
  show wpAny _ _ (callAny (.ref C) _) _ _ _
  repeat (any_goals (first | assumption | with_reducible refine wpAny_loadPart_at hC ?_ | wp_step))
  refine ⟨rfl, ?_⟩
  refine codeAny_call_builtin_at (Code.quiet_builtin _ (by decide +kernel)) entry_typeCall (wpAny_check_type_call_sub hC (type_callK F hT hC hi hb ?_))
  refine codeAny_mono hq fun r s' z => ?_
  rcases r with e | (v | _ | _ | _) <;> exact z
end
section
open L2
variable {X : Cx} {kws : List Keyword} {tk : TA} {p pos : Pos} {g : List Value → List Value → List Value} {gV : List V → List V → List V} {ks : List Str}
/-- C(k = v, ..) of an own error class: laid bare, then its __init__ -/
def tMkK (C : Addr) (m : Nat) (sp : Sp) (gV : List V → List V → List V) (tk : TA) : L2.St → Hp → XK → Prop := fun σ H Q => tk σ H fun zs H1 => zs.length = m ∧ ∀ a, H1 a = none → sp (gV [.ref a] zs) (upd H1 a (exo a C none))
  (fun v H2 => v = .non ∧ ∃ (d : Addr) (fs : List (Str × V)), H2 a = some (exo a C (some d)) ∧ H2 d = some (exd d fs) ∧ H1 d = none ∧ Q (.ref C) (some d) (upd (del H2 a) d (.xd fs))) (fun _ _ _ => False)
theorem pmk_oexK {CX : CXT} {x : Str} {C fI : Addr} {k : Nat} {fd : FuncData} {ps : List Str} {sp : Sp} (T : OexC X.K C) (iC : PySem.W.findIn X.K (.ref C) "__init__" = some (some (.ref fI))) (tI : PySem.W.typeIn X.K (.ref fI) = some (.type "function"))
    (F1 : FnOk X.prog X.w X.K X.mg X.base CX k fI fd ps sp) (hr : Room (k + 1) X.A) (hb : KBn X.K fd ps 1 ks g gV) (hx : Passes CX X (fun _ _ _ => False)) (hm : X.mg x = some (.ref C)) (hkw : PK X kws tk) (hg : Gl X x := by rfl)
    (hall : (backToKw pos (keywordEach kws X.env)).all (·.1.isSome) = true := by rfl) (hks : (backToKw pos (keywordEach kws X.env)).filterMap (·.1) = ks := by rfl) (hdb : (x == ("__debug__" : Str)) = false := by decide)
    (hpl : ((backTo pos (starEach [] X.env)).any (·.1) || (backToKw pos (keywordEach kws X.env)).any (·.1.isNone)) = false := by rfl) :
    PMk X (.Call (.Name x p) [] kws pos) (tMkK C ks.length sp gV tk) := by
  intro pins s σ H Q I h
  obtain ⟨nm, q, N, bs, bm, sn, sub, ab, col, dd, k0, k1, k2, k3, k5, hC, hbm⟩ := T.cls
  refine wpAny_Call_Name_kw (ld_glob I hg hm ?_ hdb)
  refine PySem.W.callWith_KW0 (h₀ := X.base) I.ok.mod.kin T.kC hall ?_ hpl
  refine thn (hkw.run pos pins s σ H _ I h) fun ws s1 ⟨zs, H1, I1, rz, q1⟩ => ⟨I1.kIn, ?_⟩
  rw [hks]
  show wpAny _ _ (call (.ref C) [] (ks.zip ws)) _ _ _
  obtain ⟨hp, gg, dr, tok, os⟩ := s1
  have z1 : hp.objs.size ≤ hp.objs.size + 1 := Nat.le_succ _
  have hq := q1.2 (hp.objs.size + 1) (I1.hok.fresh z1)
  have kk : ∀ b o, hp.get? b = some o → ((hp.push (PySem.W.kdv_tup [])).push (PySem.HandSPX.excO C hp.objs.size)).get? b = some o := fun b o e => Heap.get?_push_of_some _ (Heap.get?_push_of_some _ e)
  have hget : ((hp.push (PySem.W.kdv_tup [])).push (PySem.HandSPX.excO C hp.objs.size)).get? (hp.objs.size + 1) = some (PySem.HandSPX.excO C hp.objs.size) := by heap_get
  have I2 : Inv X pins σ (upd H1 (hp.objs.size + 1) (exo (hp.objs.size + 1) C none)) ⟨(hp.push (PySem.W.kdv_tup [])).push (PySem.HandSPX.excO C hp.objs.size), gg, dr, tok, os⟩ :=
    I1.laid (t' := tok) (a := hp.objs.size + 1) (o := exo (hp.objs.size + 1) C none) (h' := (hp.push (PySem.W.kdv_tup [])).push (PySem.HandSPX.excO C hp.objs.size)) kk z1 (exo_ok hget)
  have r2 := hb.rel (vs := [V.ref (hp.objs.size + 1)]) (us := [Value.ref (hp.objs.size + 1)]) (.cons rfl .nil) rz
  refine wpAny_call (call_ownK F.excBase_ValueError (fun Y => PySem.HandSPX.refsVE_contains Y bm hbm) (I1.kIn _ _ hC) (PySem.W.looks_findIn I1.kIn iC) (fun self => PySem.W.bind_fn I1.kIn self tI)
    (codeAny_mono (F1.run _ X.stack _ _ ⟨[Value.ref (hp.objs.size + 1)], ks.zip ws⟩ (g [Value.ref (hp.objs.size + 1)] ws) _ _ (fun _ _ _ => False) (hr.make C [] (ks.zip ws)) (I2.env0.make C [] (ks.zip ws))
      (hb.to _ [Value.ref (hp.objs.size + 1)] ws I2.kIn rfl (rz.length.symm.trans q1.1)) r2 hq) fun r s' hq' => ?_))
  cases r with
  | error er => exact hx pins σ _ _ er s' I2 hq'
  | ok fl =>
    cases fl with
    | ret u =>
      obtain ⟨v, H2, os2, bare2, un2, hok2, rv, ev, d, fs, ea, ed, hd1, q2⟩ := hq'
      subst ev
      obtain ⟨h2, g2, d2, t2, os'⟩ := s'
      exact ⟨rv, mk_end (raises_own T.exC T.tyC) I1 z1 kk un2 hok2 os2 bare2 ea ed hd1 q2⟩
    | next => exact False.elim hq'
    | brk => exact False.elim hq'
    | cont => exact False.elim hq'
end
end Fm

/-! ## FmRaise -/
set_option Elab.async false
set_option maxRecDepth 100000
set_option maxHeartbeats 4000000
/-! Raising own errors: by position, by keyword, without arguments; a def that raises, called within a try. -/
namespace Fm
open PySem PySem.Spec PyProof.Rows L2
/-- __init__(self, v) of an own error: self.f = v -/
def spIn (K : PySem.W.Frag) (f : Str) : Sp := fun vs H Q _ => ∃ (a C : Addr) (v : V), vs = [.ref a, v] ∧ OexC K C ∧ H a = some (exo a C none) ∧ PySem.W.findIn K (.ref C) f = some none ∧ ∀ dx, H dx = none → dx ≠ a → Q .non (upd (upd H dx (exd dx [(f, v)])) a (exo a C (some dx)))
structure Xf (P : Program) (w : World) (K : PySem.W.Frag) (mg : Str → Option Value) (base : Heap) (x : Str) (C : Addr) (f : Str) : Prop where
  ex : ∃ (fI : Addr) (fd : FuncData), OexC K C ∧ PySem.W.findIn K (.ref C) "__init__" = some (some (.ref fI)) ∧ PySem.W.typeIn K (.ref fI) = some (.type "function") ∧ FnOk P w K mg base CX0 1 fI fd ["self", f] (spIn K f) ∧ mg x = some (.ref C) ∧ Binds K fd ["self", f] [] ∧
    KBn K fd ["self", f] 1 [f] (fun us ws => us ++ ws) (fun vs zs => vs ++ zs) ∧ PySem.W.findIn K (.ref C) f = some none
structure X0 (K : PySem.W.Frag) (mg : Str → Option Value) (x : Str) (C : Addr) : Prop where
  ex : ∃ (bmB : List Value) (B newId initId : String), ExcBaseFacts B newId initId bmB ∧ PySem.W.excIn K C bmB newId = true ∧ mg x = some (.ref C) ∧ PySem.W.keepIn K (.ref C) = true ∧ PySem.W.subIn K (.ref C) (.type "BaseException") = some true ∧ PySem.W.typeIn K (.ref C) = some (.type "type")
def tRE (C : Addr) (f : Str) (i : Nat) (W : WX) : TS := fun _ σ H => ∃ v, σ[i]? = some (some v) ∧ ∀ d, H d = none → W (.ref C) (some d) σ (upd H d (.xd [(f, v)]))
theorem del_upd {H : Hp} {a d : Addr} {o1 o2 o3 o4 : HO} (ha : H a = none) (ne : d ≠ a) : upd (del (upd (upd (upd H a o1) d o2) a o3) a) d o4 = upd H d o4 := funext fun b => by
  by_cases q : b = d
  · rw [q, upd_same, upd_same]
  · rw [upd_ne q, upd_ne q]
    by_cases z : b = a
    · rw [z, del_same, ha]
    · rw [del_ne z, upd_ne z, upd_ne q, upd_ne z]
section
variable {X : Cx} {W : WX} {x f : Str} {C : Addr} {i : Nat} {e : Expr} {p pos pos' kpos : Pos}
theorem init_read {K : PySem.W.Frag} {H : Hp} {a : Addr} {v : V} {Q : XK} {E : XK} (T : OexC K C) (hno : PySem.W.findIn K (.ref C) f = some none) (ha : H a = none) (k : ∀ d, H d = none → Q (.ref C) (some d) (upd H d (.xd [(f, v)]))) :
    spIn K f [.ref a, v] (upd H a (exo a C none)) (fun z H2 => z = .non ∧ ∃ (d : Addr) (fs : List (Str × V)), H2 a = some (exo a C (some d)) ∧ H2 d = some (exd d fs) ∧ H d = none ∧ Q (.ref C) (some d) (upd (del H2 a) d (.xd fs))) E :=
  ⟨a, C, v, rfl, T, upd_same, hno, fun dx hdx ne => ⟨rfl, dx, [(f, v)], upd_same, by rw [upd_ne ne, upd_same], by rw [upd_ne ne] at hdx; exact hdx, by rw [del_upd ha ne]; exact k dx (by rw [upd_ne ne] at hdx; exact hdx)⟩⟩
theorem ps_rE (B : Xf X.prog X.w X.K X.mg X.base x C f) (hr : Room 2 X.A) (tk : Takes X W) (he : PE X e (tVar i)) (hc : X.calm = true := by rfl) (hg : Gl X x := by rfl) (hdb : (x == ("__debug__" : Str)) = false := by decide)
    (hst : starEach [e] X.env = (false, eval e X.env) :: starEach [] X.env := by rfl) (hpl : (backTo pos (starEach [] X.env)).any (·.1) = false := by rfl) : PS X (.Raise (some (.Call (.Name x p) [e] [] pos)) none pos') (tRE C f i W) := by
  obtain ⟨fI, fd, T, iC, tI, F1, hm, hb, _, hno⟩ := B.ex
  refine ⟨fun pins s σ H D I h => ?_⟩
  obtain ⟨v, hv, k⟩ := h
  exact (ps_raise hc tk (pmk_oex T iC tI F1 hr hb .nil pass0 hg hm (pa_cons he pa_nil (hs := hst)) hdb hst hpl)).run pins s σ H D I ⟨v, hv, (by show 1 ≤ 1000; decide), fun a ha => init_read (v := v) (Q := fun cls d H' => W cls d σ H') T hno ha k⟩
theorem ps_rK (B : Xf X.prog X.w X.K X.mg X.base x C f) (hr : Room 2 X.A) (tk : Takes X W) (he : PE X e (tVar i)) (hc : X.calm = true := by rfl) (hg : Gl X x := by rfl) (hdb : (x == ("__debug__" : Str)) = false := by decide)
    (hall : (backToKw pos (keywordEach [⟨some f, e, kpos⟩] X.env)).all (·.1.isSome) = true := by rfl) (hks : (backToKw pos (keywordEach [⟨some f, e, kpos⟩] X.env)).filterMap (·.1) = [f] := by rfl)
    (hpl : ((backTo pos (starEach [] X.env)).any (·.1) || (backToKw pos (keywordEach [⟨some f, e, kpos⟩] X.env)).any (·.1.isNone)) = false := by rfl) : PS X (.Raise (some (.Call (.Name x p) [] [⟨some f, e, kpos⟩] pos)) none pos') (tRE C f i W) := by
  obtain ⟨fI, fd, T, iC, tI, F1, hm, _, hb, hno⟩ := B.ex
  refine ⟨fun pins s σ H D I h => ?_⟩
  obtain ⟨v, hv, k⟩ := h
  exact (ps_raise hc tk (pmk_oexK T iC tI F1 hr hb pass0 hm (pk_cons he pk_nil) hg hall hks hdb hpl)).run pins s σ H D I ⟨v, hv, rfl, fun a ha => init_read (v := v) (Q := fun cls d H' => W cls d σ H') T hno ha k⟩
theorem ps_r0 (B : X0 X.K X.mg x C) (tk : Takes X W) (hc : X.calm = true := by rfl) (hg : Gl X x := by rfl) (hdb : (x == ("__debug__" : Str)) = false := by decide) : PS X (.Raise (some (.Call (.Name x p) [] [] pos)) none pos') (fun _ σ H => W (.ref C) none σ H) := by
  obtain ⟨bmB, N, newId, initId, F, q, gC, kC, e1, e2⟩ := B.ex
  exact ps_raise hc tk (pmk_own0 F q gC kC (raises_own e1 e2) hg hdb)
/-- a def that may raise -/
structure DfX (P : Program) (w : World) (K : PySem.W.Frag) (mg : Str → Option Value) (base : Heap) (x : Str) (k : Nat) (ps : List Str) (sp : Sp) : Prop where
  ex : ∃ (f : Addr) (fd : FuncData), FnOk P w K mg base (L2.CX P w) k f fd ps sp ∧ mg x = some (.ref f) ∧ PySem.W.keepIn K (.ref f) = true ∧ Binds K fd ps []
theorem pe_dX {pn : List (Addr × Obj)} {xe : Value → Shared → Prop} {es : List Expr} {t : TA} {k : Nat} {ps : List Str} {sp : Sp} (D : DfX X.prog X.w X.K X.mg X.base x k ps sp) (hr : Room k X.A) (tk : Takes (X.tr pn xe) W) (ha : PA (X.tr pn xe) (e :: es) t) (hg : Gl X x := by rfl) (hdb : (x == ("__debug__" : Str)) = false := by decide)
    (he : starEach (e :: es) X.env = (false, eval e X.env) :: starEach es X.env := by rfl) (hpl : (backTo pos (starEach es X.env)).any (·.1) = false := by rfl) : PE (X.tr pn xe) (.Call (.Name x p) (e :: es) [] pos) (tCallS sp (WE W) t) := by
  obtain ⟨f, fd, F, hm, hk, hb⟩ := D.ex
  exact pe_callS F hr hg hm hk hb (fun σ => passAt tk σ) ha hdb he hpl
end
section
variable {X : Cx} {K : PySem.W.Frag}
/-! ### readings that name the part alone -/
theorem peK {e : Expr} {T : String} {r : V → List V → Hp → VK → Prop} {to : TE} {t : TA} (h : PE X e (tBM X.K T r to t)) (hK : X.K = K := by rfl) : PE X e (tBM K T r to t) := by
  subst hK
  exact h
theorem opK_in (hK : X.K = K := by rfl) : OpR X (compareOp .In) (rIn K false) := by
  subst hK
  exact op_in_seq
theorem call_isK {a : Addr} {cls : Value} {d : Option Addr} {oe : Obj} {pn : List (Addr × Obj)} (hz : Zc cls d oe) (hf : ∃ vs, oe.data = .fields vs) (hK : X.K = K := by rfl) : CallR (X.suite a ((a, oe) :: pn)) (.builtin "isinstance") (rIsF K a cls d) := by
  subst hK
  exact call_isF hz hf
theorem pe_xk {a : Addr} {oe : Obj} {cls : Value} {d : Option Addr} {pn : List (Addr × Obj)} {e : Expr} {te : TE} {pos : Pos} {n : Str} (hz : Zc cls d oe) (hf : ∃ vs, oe.data = .fields vs) (he : PE (X.suite a ((a, oe) :: pn)) e te)
    (hb : attributeBase e n X.env (eval e X.env) = eval e X.env := by rfl) (hK : X.K = K := by rfl) : PE (X.suite a ((a, oe) :: pn)) (.Attribute e n pos) (tXg K a cls d n te) := by
  subst hK
  exact pe_xg hz hf he hb
end
end Fm

/-! ## FmCall -/
set_option Elab.async false
set_option maxRecDepth 100000
set_option maxHeartbeats 4000000
/-! Calls of what may raise: a def, a method, a class by its __init__; the way out is told of the slots of the caller. -/
namespace Fm
open PySem PySem.Spec PyProof.Rows L2
structure DmX (P : Program) (w : World) (K : PySem.W.Frag) (mg : Str → Option Value) (base : Heap) (C : Addr) (m : Str) (k : Nat) (ps : List Str) (sp : Sp) : Prop where
  ex : ∃ (f : Addr) (fd : FuncData), FnOk P w K mg base (L2.CX P w) k f fd ps sp ∧ Meth K C m f ∧ Binds K fd ps []
structure DcX (P : Program) (w : World) (K : PySem.W.Frag) (mg : Str → Option Value) (base : Heap) (x : Str) (C : Addr) (k : Nat) (ps : List Str) (sp : Sp) : Prop where
  ex : ∃ (f : Addr) (fd : FuncData), FnOk P w K mg base (L2.CX P w) k f fd ps sp ∧ mg x = some (.ref C) ∧ Mk K C f ∧ Binds K fd ps []
def tMethX (C : Addr) (m : Str) (sp : Sp) (W : WX) (ta : TE) (t : TA) : TE := fun σ H Q => ta σ H fun x H1 => ∃ a dx fs, x = .ref a ∧ H1 a = some (.ins C dx fs) ∧ fs.lookup m = none ∧ t σ H1 fun vs H2 => sp (.ref a :: vs) H2 Q (WE W σ)
def tMakeX (C : Addr) (sp : Sp) (W : WX) (t : TA) : TE := fun σ H Q => t σ H fun vs H1 => ∀ x dx, H1 x = none → H1 dx = none → dx ≠ x → sp (.ref x :: vs) (upd (upd H1 dx (.own x)) x (.ins C dx [])) (fun v H2 => v = .non ∧ Q (.ref x) H2) (WE W σ)
section
variable {X : Cx} {k : Nat} {ps : List Str} {sp : Sp} {x m : Str} {e o : Expr} {es : List Expr} {t : TA} {to : TE} {C f : Addr} {fd : FuncData} {p apos pos : Pos} {W : WX}
theorem pe_dE (D : DfX X.prog X.w X.K X.mg X.base x k ps sp) (hr : Room k X.A) (tk : Takes X W) (ha : PA X (e :: es) t) (hg : Gl X x := by rfl) (hdb : (x == ("__debug__" : Str)) = false := by decide)
    (he : starEach (e :: es) X.env = (false, eval e X.env) :: starEach es X.env := by rfl) (hpl : (backTo pos (starEach es X.env)).any (·.1) = false := by rfl) : PE X (.Call (.Name x p) (e :: es) [] pos) (tCallS sp (WE W) t) := by
  obtain ⟨f, fd, F, hm, hk, hb⟩ := D.ex
  exact pe_callS F hr hg hm hk hb (fun σ => passAt tk σ) ha hdb he hpl
theorem pe_dmE {pl : Sem Bool} (he : PE X o to) (c : Cls X.K C) (D : DmX X.prog X.w X.K X.mg X.base C m k ps sp) (hr : Room k X.A) (tk : Takes X W) (ha : PA X (e :: es) t)
    (hst : starEach (e :: es) X.env = (false, eval e X.env) :: starEach es X.env := by rfl) (hpl : (backTo pos (starEach es X.env)).any (·.1) = false := by rfl)
    (ht : eval (.Call (.Attribute o m apos) (e :: es) [] pos) X.env = (do
      let ov ← eval o X.env
      standAt apos.atName
      let (f, first) ← holding [ov] (getMethod ov m pl)
      callWith pos f first (backTo pos (starEach (e :: es) X.env)) (backToKw pos (keywordEach [] X.env))) := by rfl) : PE X (.Call (.Attribute o m apos) (e :: es) [] pos) (tMethX C m sp W to t) := by
  obtain ⟨f, fd, F, hm, hb⟩ := D.ex
  refine ⟨fun pins s σ H Q I h => ?_⟩
  refine PySem.W.methodCall_KW (pl := pl) (thn (he.run pins s σ H _ I h) fun u s1 ⟨x, H1, I1, rx, a, dx, fs, ex, ea, l, q⟩ => ?_) ht
  subst ex
  cases (show u = Value.ref a from rx)
  refine getmeth_ok I1 ea c hm l (PySem.W.callWith_K (first := [.ref a]) (h₀ := X.base) I.ok.mod.kin hm.kp (thn (ha.run pos pins s1 σ H1 _ I1 q) fun us s2 ⟨vs, H2, I2, r, q2⟩ => ⟨I2.kIn, ?_⟩) hst hpl)
  exact run_fnS (E := WE W) (us := .ref a :: us) (vs := .ref a :: vs) F hr hb (passAt tk σ) I2 (.cons rfl r) q2
theorem pe_dcE (D : DcX X.prog X.w X.K X.mg X.base x C k ps sp) (hr : Room (k + 1) X.A) (tk : Takes X W) (ha : PA X (e :: es) t) (hg : Gl X x := by rfl) (hdb : (x == ("__debug__" : Str)) = false := by decide)
    (he : starEach (e :: es) X.env = (false, eval e X.env) :: starEach es X.env := by rfl) (hpl : (backTo pos (starEach es X.env)).any (·.1) = false := by rfl) : PE X (.Call (.Name x p) (e :: es) [] pos) (tMakeX C sp W t) := by
  obtain ⟨f, fd, F, hm, M, hb⟩ := D.ex
  refine ⟨fun pins s0 σ H0 Q I0 h0 => ?_⟩
  refine wpAny_Call_Name_kw (ld_glob I0 hg hm ?_ hdb)
  refine PySem.W.callWith_K (h₀ := X.base) I0.ok.mod.kin M.kp (thn (ha.run pos pins s0 σ H0 _ I0 h0) fun us s ⟨vs, H, I, r, h⟩ => ⟨I.kIn, ?_⟩) he hpl
  show wpAny _ _ (call (.ref C) us) _ _ _
  have hq := h (s.heap.objs.size + 1) s.heap.objs.size (I.hok.fresh (Nat.le_succ _)) (I.hok.fresh (Nat.le_refl _)) (Nat.ne_of_lt (Nat.lt_succ_self _))
  have I2 := Inv.made (C := C) I
  have r2 : Vals (V.ref (s.heap.objs.size + 1) :: vs) (Value.ref (s.heap.objs.size + 1) :: us) := .cons rfl r
  have hl : (Value.ref (s.heap.objs.size + 1) :: us).length = ps.length := by
    have e := r2.length
    rw [F.len _ _ _ _ hq] at e
    exact e.symm
  have b := hb _ (Value.ref (s.heap.objs.size + 1) :: us) I2.kIn (by rw [List.append_nil]; exact hl)
  rw [List.append_nil] at b
  refine wpAny_call (make_map (f := f) I.kIn M.makes M.init (beq_iff_eq.mp M.fn) (codeAny_mono (F.run _ X.stack _ _ ⟨Value.ref (s.heap.objs.size + 1) :: us, []⟩ (Value.ref (s.heap.objs.size + 1) :: us) _ _ (WE W σ) (hr.make C us []) (I2.env0.make C us []) b r2 hq) fun r s' hq' => ?_))
  cases r with
  | error e => exact passAt tk σ pins _ _ e s' I2 hq'
  | ok fl =>
    cases fl with
    | ret u =>
      obtain ⟨v, H', I3, rv, ev, q3⟩ := I2.after hq'
      subst ev
      exact ⟨rv, ⟨V.ref (s.heap.objs.size + 1), H', I3, rfl, q3⟩⟩
    | next => exact False.elim hq'
    | brk => exact False.elim hq'
    | cont => exact False.elim hq'
end
section
variable {X : Cx} {W : WX} {x f : Str} {C : Addr} {e : Expr} {te : TE} {p pos pos' : Pos}
theorem Xf.oex {P : Program} {w : World} {K : PySem.W.Frag} {mg : Str → Option Value} {base : Heap} (B : Xf P w K mg base x C f) : OexC K C ∧ PySem.W.findIn K (.ref C) f = some none := by
  obtain ⟨_, _, T, _, _, _, _, _, _, hno⟩ := B.ex
  exact ⟨T, hno⟩
/-- raise X(e) -/
theorem ps_rG (B : Xf X.prog X.w X.K X.mg X.base x C f) (hr : Room 2 X.A) (tk : Takes X W) (he : PE X e te) (hc : X.calm = true := by rfl) (hg : Gl X x := by rfl) (hdb : (x == ("__debug__" : Str)) = false := by decide)
    (hst : starEach [e] X.env = (false, eval e X.env) :: starEach [] X.env := by rfl) (hpl : (backTo pos (starEach [] X.env)).any (·.1) = false := by rfl) :
    PS X (.Raise (some (.Call (.Name x p) [e] [] pos)) none pos') (fun _ σ H => tMkO C (spIn X.K f) [] (tCons te tNil) σ H fun cls d H' => W cls d σ H') := by
  obtain ⟨fI, fd, T, iC, tI, F1, hm, hb, _, hno⟩ := B.ex
  exact ps_raise hc tk (pmk_oex T iC tI F1 hr hb .nil pass0 hg hm (pa_cons he pa_nil (hs := hst)) hdb hst hpl)
end
theorem pe_fldK {X : Cx} {K : PySem.W.Frag} {e : Expr} {ta : TE} {f : Str} {pos : Pos} (he : PE X e ta) (hb : attributeBase e f X.env (eval e X.env) = eval e X.env := by rfl) (hK : X.K = K := by rfl) : PE X (.Attribute e f pos) (tFld K ta f) := by
  subst hK
  exact pe_fld he hb
end Fm

/-! ## K08A -/
set_option Elab.async false
set_option maxRecDepth 100000
set_option maxHeartbeats 4000000
namespace Fm
open PySem L2
def topS (i : Nat) : Stmt := PySem.Challenge.pw_firstmet_k08_blocks.main.body.getD i (.Pass ⟨0, 0, 0, 0⟩)
/-- what the top has left of names -/
structure Txt (K : PySem.W.Frag) (mg : Str → Option Value) (CS : Addr) : Prop where
  n_len : mg "len" = none
  n_list : mg "list" = none
  n_tuple : mg "tuple" = none
  n_isinstance : mg "isinstance" = none
  n_str : mg "str" = none
  n_dict : mg "dict" = none
  n_bool : mg "bool" = none
  n_int : mg "int" = none
  n_max : mg "max" = none
  n_all : mg "all" = none
  n_set : mg "set" = none
  n_range : mg "range" = none
  n_enumerate : mg "enumerate" = none
  n_min : mg "min" = none
  g_LETTERS : ∃ t, mg "LETTERS" = some (.str "abcdefghijklmnopqrstuvwxyz" t)
  g_LONGEST_NAME : ∃ t, mg "LONGEST_NAME" = some (.int 8 t)
  g_MOST_TABLES : ∃ t, mg "MOST_TABLES" = some (.int 5 t)
  g_MOST_FIELDS : ∃ t, mg "MOST_FIELDS" = some (.int 4 t)
  g_LARGEST_VALUE : ∃ t, mg "LARGEST_VALUE" = some (.int 1000000000 t)
  g_MOST_BLOCKS : ∃ t, mg "MOST_BLOCKS" = some (.int 6 t)
  g_MOST_KEYS : ∃ t, mg "MOST_KEYS" = some (.int 3 t)
  g_MOST_SUMS : ∃ t, mg "MOST_SUMS" = some (.int 3 t)
  g_MOST_FACTORS : ∃ t, mg "MOST_FACTORS" = some (.int 3 t)
  g_MOST_PRODUCTS : ∃ t, mg "MOST_PRODUCTS" = some (.int 4 t)
  g_LARGEST_MULTIPLE : ∃ t, mg "LARGEST_MULTIPLE" = some (.int 1000 t)
  g_MOST_TOP_STATEMENTS : ∃ t, mg "MOST_TOP_STATEMENTS" = some (.int 12 t)
  g_MOST_IN_A_BODY : ∃ t, mg "MOST_IN_A_BODY" = some (.int 8 t)
  g_DEEPEST : ∃ t, mg "DEEPEST" = some (.int 8 t)
  g_MOST_STATEMENTS : ∃ t, mg "MOST_STATEMENTS" = some (.int 40 t)
  n_any : mg "any" = none
  g_Shape : mg "Shape" = some (.ref CS)
  cl : Cls K CS
  nT : NoAttr K CS "tables"
  c_cls : PySem.W.findIn K (.ref CS) "__class__" = some (some (.builtin "object.__class__"))
  c_get : PySem.W.specialIn K (.builtin "object.__class__") "__get__" = some (some (.builtin "getset_descriptor.__get__"))
  c_tak : PySem.W.takesIn K (.builtin "object.__class__") = some true
  c_mro : PySem.W.mroIn K CS (.type "object") = some true
  c_ne : PySem.W.findIn K (.ref CS) "__ne__" = some (some (.builtin "object.__ne__"))
  c_isi : ∀ n ∈ ["NoneType", "bool", "int", "str", "list", "tuple", "dict"], PySem.W.kitOne K (.type n) (.ref CS) = some false
  c_nf : ∀ n ∈ ["NoneType", "bool", "int", "str", "list", "tuple", "dict"], PySem.W.notFirst K CS (.type n) = true
section
variable {P : Program} {w : World} {K : PySem.W.Frag} {mg : Str → Option Value} {base : Heap} {CS : Addr}
abbrev s_l_pick : Stmt := topS 52
abbrev sc_l_pickN : List Str := ["_law_bag_here", "_law_many", "_law_cell", "_law_found", "_law_one"]
abbrev ps_l_pick : List Str := ["_law_bag_here", "_law_many"]
theorem sc_l_pick : FnScope sc_l_pickN ps_l_pick (defScope s_l_pick) := ⟨rfl, rfl, rfl, by decide +kernel, rfl, by decide +kernel, by decide +kernel⟩
theorem ok_l_pick {f : Addr} {fd : FuncData} (F : Fun K "_law_pick" "_law_pick" s_l_pick f fd) (T : Txt K mg CS) : FnOk P w K mg base CX0 1 f fd ps_l_pick spPick := by
  refine F.ok sc_l_pick (fun vs H Q E h => ?_) (fun cdv A outer s H vs Q E hr h => ?_)
  · obtain ⟨_, _, _, rfl, _⟩ := h
    rfl
  · obtain ⟨F0, b, m, rfl, m0, m1, ⟨hs, hfb, cl, ns, p, g, z, c, hh, hcl0, hcb, hcl, hb, p0, g0, z0, z1⟩, k⟩ := h
    have fin : ∀ (r p' g' z' c' h' : Int) (H' : Hp), 0 ≤ r → r < m → 0 ≤ p' → 0 ≤ g' → 0 ≤ z' → z' < 2147483647 → (∀ a, a ≠ b → H' a = H a) → H' b = some (.lst [.ref cl, .int p', .int g', .int z', .int c', .int h']) → Q (.int r) H' :=
      fun r p' g' z' c' h' H' r0 r1 q0 q1 q2 q3 ho hb' => k r H' r0 r1 ⟨fun a o e => by
        have n : a ≠ b := fun q => by rw [q, hfb] at e; cases e
        rw [ho a n]; exact hs a o e, hfb, cl, ns, p', g', z', c', h', hcl0, hcb, by rw [ho cl hcb]; exact hcl, hb', q0, q1, q2, q3⟩
    refine ⟨_, (pss_cons (ps_asg (pe_op op_add (pe_ix ix_list (pv 0) pe_int (fun _ _ => rfl)) pe_int) (pg_sub (pv 0) pe_int set_list))
  (Evl.pss_cut (ps_if (PW.pt (pw_and (pt_cmpR op_eq (pe_ix ix_list (pv 0) pe_int (fun _ _ => rfl)) pe_int (nomark _)) (pw_and (pt_cmpR op_eq (pe_ix ix_list (pv 0) pe_int (fun _ _ => rfl)) pe_int (nomark _)) (pw_and1 (pt_cmpR op_lt (pe_ix ix_list (pv 0) pe_int (fun _ _ => rfl)) (pe_callB call_len_seq (by rfl) T.n_len (by decide +kernel) (pa_cons (pe_ix ix_list (pv 0) pe_int (fun _ _ => rfl)) pa_nil)) (nomark _))))))
    (pss_cons (ps_set (i := 2) sc_l_pick.nd rfl (Or.inl rfl) (pe_ix ix_list (pe_ix ix_list (pv 0) pe_int (fun _ _ => rfl)) (pe_ix ix_list (pv 0) pe_int (fun _ _ => rfl)) (fun _ _ => rfl)))
    (pss_cons (ps_asg (pe_op op_add (pe_ix ix_list (pv 0) pe_int (fun _ _ => rfl)) pe_int) (pg_sub (pv 0) pe_int set_list))
    (pss_one (ps_if (pt_cmpR op_ge (pv 2) (pe_op op_pow pe_int pe_int) (nomark _))
      (pss_one (ps_asg (pv 2) (pg_sub (pv 0) pe_int set_list)))
      (pss_cons (ps_asg (pe_op op_modN (pe_callTy call_int1 (by rfl) T.n_int (by decide +kernel) (pa_cons (pe_op op_add (pe_op op_add (pe_op op_mul (pe_ix ix_list (pv 0) pe_int (fun _ _ => rfl)) pe_int) (pv 2)) pe_int) pa_nil)) pe_int) (pg_sub (pv 0) pe_int set_list))
      (pss_one (ps_asg pe_int (pg_sub (pv 0) pe_int set_list))))))))
    pss_nil)
  (pss_cons (ps_if (pt_cmpR op_gt (pe_ix ix_list (pv 0) pe_int (fun _ _ => rfl)) pe_int (nomark _))
    (pss_cons (ps_set (i := 3) sc_l_pick.nd rfl (Or.inl rfl) (pe_op op_modN (pe_callTy call_int1 (by rfl) T.n_int (by decide +kernel) (pa_cons (pe_ix ix_list (pv 0) pe_int (fun _ _ => rfl)) pa_nil)) (pv 1)))
    (pss_cons (ps_asg (pe_op op_fdivN (pe_ix ix_list (pv 0) pe_int (fun _ _ => rfl)) (pv 1)) (pg_sub (pv 0) pe_int set_list))
    (pss_one (ps_ret (pv 3)))))
    pss_nil)
  (pss_cons (ps_asg (pe_callB (call_max2 (by rfl)) (by rfl) T.n_max (by decide +kernel) (pa_cons pe_int (pa_cons (pe_op op_sub (pe_ix ix_list (pv 0) pe_int (fun _ _ => rfl)) pe_int) pa_nil))) (pg_sub (pv 0) pe_int set_list))
  (pss_cons (ps_set (i := 4) sc_l_pick.nd rfl (Or.inl rfl) (pe_op op_modN (pe_callTy call_int1 (by rfl) T.n_int (by decide +kernel) (pa_cons (pe_op op_mul (pe_op op_add (pe_op op_add (pe_ix ix_list (pv 0) pe_int (fun _ _ => rfl)) (pe_op op_mul pe_int (pe_ix ix_list (pv 0) pe_int (fun _ _ => rfl)))) pe_int) pe_int) pa_nil)) pe_int))
  (pss_cons (ps_set (i := 4) sc_l_pick.nd rfl (Or.inl rfl) (pe_op op_modN (pe_callTy call_int1 (by rfl) T.n_int (by decide +kernel) (pa_cons (pe_op op_mul (pv 4) (pe_op op_add (pe_op op_fdivN (pv 4) pe_int) pe_int)) pa_nil)) pe_int))
  (pss_cons (ps_set (i := 4) sc_l_pick.nd rfl (Or.inl rfl) (pe_op op_modN (pe_callTy call_int1 (by rfl) T.n_int (by decide +kernel) (pa_cons (pe_op op_mul (pv 4) (pe_op op_add (pe_op op_fdivN (pv 4) pe_int) pe_int)) pa_nil)) pe_int))
  (pss_one (ps_ret (pe_op op_modN (pe_callTy call_int1 (by rfl) T.n_int (by decide +kernel) (pa_cons (pe_op op_fdivN (pv 4) pe_int) pa_nil)) (pv 1))))))))))), ?_⟩
    have nzM : (2147483647 : Int) ≠ 0 := by decide
    have nzM2 : (2147483399 : Int) ≠ 0 := by decide
    -- one more asked
    refine ⟨_, rfl, b, _, _, _, rfl, rfl, .inl (.inl hb), rfl, _, _, rfl, rfl, _, rfl, b, _, _, _, rfl, rfl, hb, rfl, ?_⟩
    -- a new cell
    refine ⟨fun σ' H' => ∃ (p' g' z' h' : Int) (v : Option V), σ' = [some (.ref b), some (.int m), v, none, none] ∧ 0 ≤ p' ∧ 0 ≤ g' ∧ 0 ≤ z' ∧ z' < 2147483647 ∧ (∀ a, a ≠ b → H' a = H a) ∧
      H' b = some (.lst [.ref cl, .int p', .int g', .int z', .int (c + 1), .int h']), ?_, ?_⟩
    · have stay : ∀ a, a ≠ b → (upd H b (.lst [.ref cl, .int p, .int g, .int z, .int (c + 1), .int hh])) a = H a := fun a n => upd_ne n
      refine ⟨_, rfl, b, _, _, _, rfl, rfl, .inl (.inl upd_same), rfl, rfl, _, rfl, ifd (fun _ => ?_) fun _ => iteF ⟨p, g, z, hh, _, rfl, p0, g0, z0, z1, stay, upd_same⟩⟩
      refine ⟨_, rfl, b, _, _, _, rfl, rfl, .inl (.inl upd_same), rfl, rfl, _, rfl, ifd (fun _ => ?_) fun _ => iteF ⟨p, g, z, hh, _, rfl, p0, g0, z0, z1, stay, upd_same⟩⟩
      refine ⟨_, rfl, b, _, _, _, rfl, rfl, .inl (.inl upd_same), rfl, _, rfl, b, _, _, _, rfl, rfl, .inl (.inl upd_same), rfl, cl, _, rfl, .inl (.inl (.inl (by rw [upd_ne hcb]; exact hcl))), _, _, rfl, rfl, _, rfl, ifd (fun hlt => ?_) fun _ => ⟨p, g, z, hh, _, rfl, p0, g0, z0, z1, stay, upd_same⟩⟩
      rw [List.length_map] at hlt
      obtain ⟨n, rfl⟩ : ∃ n : Nat, p = (n : Int) := ⟨p.toNat, by omega⟩
      obtain ⟨u, hu⟩ : ∃ u, ns[n]? = some u := ⟨_, List.getElem?_eq_getElem (by omega)⟩
      refine ⟨_, rfl, b, _, _, _, rfl, rfl, .inl (.inl upd_same), rfl, _, rfl, b, _, _, _, rfl, rfl, .inl (.inl upd_same), rfl, cl, _, _, _, rfl, rfl, .inl (.inl (by rw [upd_ne hcb]; exact hcl)), atI_nat (by rw [List.getElem?_map, hu]; rfl), ?_⟩
      refine ⟨_, rfl, b, _, _, _, rfl, rfl, .inl (.inl upd_same), rfl, _, _, rfl, rfl, _, rfl, b, _, _, _, rfl, rfl, upd_same, rfl, ?_⟩
      refine ⟨_, rfl, _, _, rfl, rfl, ⟨by decide, by decide, by decide⟩, _, _, rfl, rfl, _, rfl, ifd (fun hge => ?_) fun _ => ?_⟩
      · refine ⟨_, rfl, _, rfl, b, _, _, _, rfl, rfl, upd_same, rfl, ?_⟩
        have hge' : (10 : Int) ^ 18 ≤ u := hge
        exact ⟨(n : Int) + 1, u, z, hh, _, rfl, by omega, by omega, z0, z1, fun a n => by rw [upd_ne n, upd_ne n, upd_ne n], upd_same⟩
      · refine ⟨_, rfl, b, _, _, _, rfl, rfl, .inl (.inl upd_same), rfl, _, _, rfl, rfl, .inl ⟨by omega, by omega⟩, _, rfl, _, _, rfl, rfl, _, _, rfl, rfl, .inl ⟨_, rfl, _, _, rfl, rfl, nzM, _, rfl, b, _, _, _, rfl, rfl, upd_same, rfl, ?_⟩⟩
        refine ⟨_, rfl, b, _, _, _, rfl, rfl, upd_same, rfl, ?_⟩
        exact ⟨(n : Int) + 1, g, _, 6, _, rfl, by omega, g0, fmod_lo (by decide), fmod_hi (by decide), fun a n => by rw [upd_ne n, upd_ne n, upd_ne n, upd_ne n], upd_same⟩
    · rintro σ' H' ⟨p', g', z', h', v, rfl, p0', g0', z0', z1', ho, hb'⟩
      refine ⟨_, rfl, b, _, _, _, rfl, rfl, .inl (.inl hb'), rfl, _, _, rfl, rfl, _, rfl, ifd (fun hg => ?_) fun _ => ?_⟩
      · refine ⟨_, rfl, b, _, _, _, rfl, rfl, .inl (.inl hb'), rfl, .inl ⟨_, rfl, _, rfl, _, _, rfl, rfl, Int.ne_of_gt m0, ?_⟩⟩
        refine ⟨_, rfl, b, _, _, _, rfl, rfl, .inl (.inl hb'), rfl, _, rfl, _, _, rfl, rfl, ⟨Int.ne_of_gt m0, by omega⟩, _, rfl, b, _, _, _, rfl, rfl, hb', rfl, ?_⟩
        refine ⟨_, rfl, ?_⟩
        exact fin _ p' _ z' _ h' _ (fmod_lo m0) (fmod_hi m0) p0' (fdiv_lo g0' m0) z0' z1' (fun a n => by rw [upd_ne n]; exact ho a n) upd_same
      · refine ⟨_, rfl, b, _, _, _, rfl, rfl, .inl (.inl hb'), rfl, _, _, rfl, rfl, _, _, rfl, _, rfl, b, _, _, _, rfl, rfl, hb', rfl, ?_⟩
        refine ⟨_, rfl, b, _, _, _, rfl, rfl, .inl (.inl upd_same), rfl, _, rfl, b, _, _, _, rfl, rfl, .inl (.inl upd_same), rfl, _, _, rfl, rfl, .inl ⟨by decide, by decide⟩, _, _, rfl, rfl, _, _, rfl, rfl, _, _, rfl, rfl, .inr ⟨by decide, by decide⟩, .inl ⟨_, rfl, _, _, rfl, rfl, nzM, ?_⟩⟩
        refine ⟨_, rfl, _, rfl, _, _, rfl, rfl, ⟨by decide, by decide⟩, _, _, rfl, rfl, _, _, rfl, rfl, .inl (fmod64 _ (by decide) (by decide)), .inl ⟨_, rfl, _, _, rfl, rfl, nzM, ?_⟩⟩
        refine ⟨_, rfl, _, rfl, _, _, rfl, rfl, ⟨by decide, by decide⟩, _, _, rfl, rfl, _, _, rfl, rfl, .inl (fmod64 _ (by decide) (by decide)), .inl ⟨_, rfl, _, _, rfl, rfl, nzM2, ?_⟩⟩
        refine ⟨_, rfl, _, _, rfl, rfl, ⟨by decide, by decide⟩, .inl ⟨_, rfl, _, rfl, _, _, rfl, rfl, Int.ne_of_gt m0, ?_⟩⟩
        exact fin _ p' g' z' _ _ _ (fmod_lo m0) (fmod_hi m0) p0' g0' z0' z1' (fun a n => by rw [upd_ne n]; exact ho a n) upd_same
end
end Fm

/-! ## K08B -/
set_option Elab.async false
set_option maxRecDepth 100000
set_option maxHeartbeats 4000000
namespace Fm
open PySem L2
/-- a list or a tuple that stands at a -/
def Sq (K : PySem.W.Frag) (H : Hp) (a : Addr) (xs : List V) : Prop := SqL K H a xs ∨ SqT K H a xs
theorem Sq.same {K : PySem.W.Frag} {H H' : Hp} {a : Addr} {xs : List V} (h : Sq K H a xs) (e : Same H H') : Sq K H' a xs := h.elim (fun h => .inl (e.seq h)) fun h => .inr (same_sqT e h)
theorem seq_ty {K : PySem.W.Frag} {H : Hp} {a : Addr} {xs : List V} (h : Sq K H a xs) : ∃ n, TyX K H (.ref a) (.type n) ∧ PySem.W.kitAny K (.type n) [.type "list", .type "tuple"] = some true ∧ PySem.W.kitOne K (.type n) (.type "str") = some false := by
  have yes : PySem.W.kitAny K (.type "list") [.type "list", .type "tuple"] = some true := kitAny_cons (b := true) (kit_ty (by decide +kernel)) (fun z => nomatch z) fun _ => rfl
  have no : PySem.W.kitAny K (.type "tuple") [.type "list", .type "tuple"] = some true := kitAny_cons (b := false) (kit_ty (by decide +kernel)) (fun _ => kitAny_cons (b := true) (kit_ty (by decide +kernel)) (fun z => nomatch z) fun _ => rfl) fun z => nomatch z
  have k1 : PySem.W.kitOne K (.type "list") (.type "str") = some false := kit_ty (by decide +kernel)
  have k2 : PySem.W.kitOne K (.type "tuple") (.type "str") = some false := kit_ty (by decide +kernel)
  rcases h with ((h | ⟨o, h⟩) | ⟨o, its, n, h, hc, _⟩) | ((h | ⟨o, h⟩) | ⟨o, its, n, h, hc, _⟩)
  · exact ⟨_, .base (.lst h), yes, k1⟩
  · exact ⟨_, .base (.frz h), yes, k1⟩
  · exact ⟨_, .kList h hc, yes, k1⟩
  · exact ⟨_, .base (.tup h), no, k2⟩
  · exact ⟨_, .fTuple h, no, k2⟩
  · exact ⟨_, .kTuple h hc, no, k2⟩
theorem tup_ty {K : PySem.W.Frag} {H : Hp} {a : Addr} {xs : List V} (h : SqT K H a xs) : ∃ n, TyX K H (.ref a) (.type n) ∧ PySem.W.kitOne K (.type n) (.type "tuple") = some true := by
  have k : PySem.W.kitOne K (.type "tuple") (.type "tuple") = some true := kit_ty (by decide +kernel)
  rcases h with (h | ⟨o, h⟩) | ⟨o, its, n, h, hc, _⟩
  · exact ⟨_, .base (.tup h), k⟩
  · exact ⟨_, .fTuple h, k⟩
  · exact ⟨_, .kTuple h hc, k⟩
theorem clsLT : Paired ClsV [V.ty "list", V.ty "tuple"] [Value.type "list", Value.type "tuple"] := .cons (.ty _) (.cons (.ty _) .nil)
section
variable {P : Program} {w : World} {K : PySem.W.Frag} {mg : Str → Option Value} {base : Heap} {CS : Addr}
def spIsName (K : PySem.W.Frag) : Sp := fun vs H Q _ => ∃ (v : V) (r : Bool), vs = [v] ∧ ((∃ s : Str, v = .str s ∧ s.length ≤ 100000 ∧ r = isNm s) ∨ ∃ n, TyX K H v (.type n) ∧ kitB n "str" = some false ∧ r = false) ∧ ∀ H', Same H H' → Q (.bl r) H'
abbrev s_is_name : Stmt := topS 6
abbrev sc_is_nameN : List Str := ["thing", "sign"]
abbrev ps_is_name : List Str := ["thing"]
theorem sc_is_name : FnScope sc_is_nameN ps_is_name (defScope s_is_name) := ⟨rfl, rfl, rfl, by decide +kernel, rfl, by decide +kernel, by decide +kernel⟩
theorem ok_is_name {f : Addr} {fd : FuncData} (F : Fun K "is_name" "is_name" s_is_name f fd) (T : Txt K mg CS) : FnOk P w K mg base CX0 1 f fd ps_is_name (spIsName K) := by
  refine F.ok sc_is_name (fun vs H Q E h => ?_) (fun cdv A outer s H vs Q E hr h => ?_)
  · obtain ⟨_, _, rfl, _⟩ := h
    rfl
  · obtain ⟨v, r, rfl, h, k⟩ := h
    refine ⟨_, (pss_cons (ps_if (PW.pt (pw_or (pt_not (pt_val (pe_callB call_isi (by rfl) T.n_isinstance (by decide +kernel) (pa_cons (pv 0) (pa_cons (pe_bltn (v := .ty "str") (by rfl) T.n_str (by decide +kernel) rfl) pa_nil))))) (pw_or1 (pt_not (pt_chain op_le op_le pe_int (pe_callB call_len_str (by rfl) T.n_len (by decide +kernel) (pa_cons (pv 0) pa_nil)) (pe_gI T.g_LONGEST_NAME))))))
    (pss_one (ps_ret pe_bl))
    pss_nil)
  (pss_one (ps_ret (pe_callB (cr_all (by rfl)) (by rfl) T.n_all (by decide +kernel) (pa_cons (pe_lc (own := [("sign", 1)]) (g := gName 1) (tt := tYes) (by rfl) sc_is_name.nd (pi_str (pv 0)) (blkOk_by (own := [("sign", 1)]) (N := sc_is_nameN) (sc := defScope s_is_name) (by decide +kernel)) (fun _ _ _ _ _ => pg_name (i := 1) sc_is_name.nd rfl (Or.inl rfl)) (fun _ _ _ _ _ => pts_nil) (fun _ _ _ _ _ => (pe_cmpR op_in_sign (pv 1) (pe_gS T.g_LETTERS) (by rfl)))) pa_nil))))), ?_⟩
    rcases h with ⟨z, rfl, hz, rfl⟩ | ⟨n, ty, hk, rfl⟩
    · have hz' : z.length ≤ sizeLine := Nat.le_trans hz (by decide)
      refine ⟨_, rfl, _, _, _, _, _, rfl, .ty _, .base (.str _), kit_ty (b := "str") (r := true) (by decide +kernel), _, rfl, iteF ?_⟩
      have len : z.cps.toList.length ≤ 100000 := by
        have q : z.cps.toList.length = z.length := by simp [Str.length]
        rw [q]
        exact hz
      have short : ∀ H', Same H H' → (1 ≤ z.length ∧ z.length ≤ 8 → False) → Q (.bl false) H' := fun H' e n => by
        have q := k H' e
        have r0 : isNm z = false := by
          unfold isNm
          rw [← Bool.decide_and, decide_eq_false n]
          rfl
        rw [r0] at q
        exact q
      refine ⟨_, rfl, _, rfl, hz', _, _, rfl, rfl, _, rfl, ifd (fun h1 => ?_) fun h1 => ?_⟩
      · refine ⟨_, _, rfl, rfl, _, rfl, ifn (fun h2 => ?_) fun h2 => ?_⟩
        · exact short _ (Same.refl _) fun q => h2 (by omega)
        · refine ⟨_, rfl, _, rfl, fun D hD => ?_⟩
          refine lc_it (walk_str (z := z)) (fun i H' => Same H H' ∧ H' D = some (.lst ((z.cps.toList.take i).map fun c => V.bl (decide (c ∈ letters.cps.toList)))))
            ⟨same_new _ hD, by rw [upd_same]; rfl⟩ (fun _ _ _ _ => trivial) ?_ ?_
          · rintro i x H1 H2 hi ⟨s1, d1⟩ ⟨rfl, c, hc, rfl⟩
            refine ⟨rfl, _, rfl, c, letters, rfl, rfl, _, d1, take_lt _ len, same_put s1 _ hD, ?_⟩
            rw [upd_same, map_take _ (by simpa using hc)]
          · rintro H1 ⟨s1, d1⟩
            have e1 : z.cps.toList.take z.cps.size = z.cps.toList := by
              rw [← Array.length_toList, List.take_length]
            rw [e1, bl_map] at d1
            refine ⟨D, _, rfl, .inl (.inl d1), ?_⟩
            have q := k _ s1
            have r1 : isNm z = (z.cps.toList.map fun c => decide (c ∈ letters.cps.toList)).all id := by
              unfold isNm
              rw [decide_eq_true (show 1 ≤ z.length by omega), decide_eq_true (show z.length ≤ 8 by omega), List.all_map]
              simp only [letters_mem]
              rfl
            rw [r1] at q
            exact q
      · refine ⟨_, rfl, iteT ?_⟩
        exact short _ (Same.refl _) fun q => h1 (by omega)
    · refine ⟨_, rfl, _, _, _, _, _, rfl, .ty _, ty, kit_ty hk, _, rfl, iteT ?_⟩
      exact k _ (Same.refl _)
def isNmD : PyData → Bool
  | .str s => isNm s
  | _ => false
theorem rw_sq {H : Hp} {a : Addr} {xs : List V} (h : Rw H a xs) : Sq K H a xs := h.elim (fun h => .inl (.inl (.inl h))) fun h => .inr (.inl (.inl h))
theorem nm_case {H : Hp} {v : V} {d : PyData} (hv : Tp H v d) (hm : mst d ≤ 100000) : (∃ s : Str, v = .str s ∧ s.length ≤ 100000 ∧ isNmD d = isNm s) ∨ ∃ n, TyX K H v (.type n) ∧ kitB n "str" = some false ∧ isNmD d = false := by
  cases d with
  | str s => exact .inl ⟨s, hv.strI, hm, rfl⟩
  | none => exact .inr ⟨_, hv.ty, rfl, rfl⟩
  | bool _ => exact .inr ⟨_, hv.ty, rfl, rfl⟩
  | int _ => exact .inr ⟨_, hv.ty, rfl, rfl⟩
  | list _ => exact .inr ⟨_, hv.ty, rfl, rfl⟩
  | tuple _ => exact .inr ⟨_, hv.ty, rfl, rfl⟩
  | dict _ => exact .inr ⟨_, hv.ty, rfl, rfl⟩
/-- a list or a tuple of so many -/
def rowD3 (lo hi : Int) (d : PyData) : Bool := isRowD d && decide (lo ≤ ((partsD d).length : Int)) && decide (((partsD d).length : Int) ≤ hi)
def spIsRow (K : PySem.W.Frag) : Sp := fun vs H Q _ => ∃ (v : V) (d : PyData) (lo hi : Int), vs = [v, .int lo, .int hi] ∧ Tp H v d ∧ ∀ H', Same H H' → Q (.bl (rowD3 lo hi d)) H'
abbrev s_is_row : Stmt := topS 7
abbrev sc_is_rowN : List Str := ["thing", "least", "most"]
abbrev ps_is_row : List Str := ["thing", "least", "most"]
theorem sc_is_row : FnScope sc_is_rowN ps_is_row (defScope s_is_row) := ⟨rfl, rfl, rfl, by decide +kernel, rfl, by decide +kernel, by decide +kernel⟩
theorem ok_is_row {f : Addr} {fd : FuncData} (F : Fun K "is_row" "is_row" s_is_row f fd) (T : Txt K mg CS) : FnOk P w K mg base CX0 1 f fd ps_is_row (spIsRow K) := by
  refine F.ok sc_is_row (fun vs H Q E h => ?_) (fun cdv A outer s H vs Q E hr h => ?_)
  · obtain ⟨_, _, _, _, rfl, _⟩ := h
    rfl
  · obtain ⟨v, d, lo, hi, rfl, hv, k⟩ := h
    refine ⟨_, (pss_one (ps_ret (pe_and (pe_callB call_isiT (by rfl) T.n_isinstance (by decide +kernel) (pa_cons (pv 0) (pa_cons (pe_tup (pa_cons (pe_bltn (v := .ty "list") (by rfl) T.n_list (by decide +kernel) rfl) (pa_cons (pe_bltn (v := .ty "tuple") (by rfl) T.n_tuple (by decide +kernel) rfl) pa_nil))) pa_nil))) (pe_one (pe_chain op_le op_le (pv 1) (pe_callB call_len_seq (by rfl) T.n_len (by decide +kernel) (pa_cons (pv 0) pa_nil)) (pv 2)))))), ?_⟩
    refine ⟨_, rfl, (by show 2 ≤ sizeLine; decide), fun tp htp => ?_⟩
    have s1 : Same H (upd H tp (.tup [.ty "list", .ty "tuple"])) := same_new _ htp
    refine ⟨_, tp, _, _, _, _, rfl, upd_same, clsLT, (hv.same s1).ty, kitAny_row, _, rfl, ?_⟩
    have q := k _ s1
    unfold rowD3 at q
    cases e : isRowD d with
    | false =>
      rw [e] at q
      exact iteF q
    | true =>
      rw [e] at q
      obtain ⟨a, xs, rfl, hx, ha⟩ := (hv.same s1).row e
      rw [← ha.len] at q
      refine iteT ⟨_, rfl, _, rfl, a, xs, rfl, rw_sq hx, _, _, rfl, rfl, _, rfl, ifd (fun h1 => ?_) fun h1 => ?_⟩
      · refine ⟨_, rfl, _, _, rfl, rfl, ?_⟩
        rw [decide_eq_true h1] at q
        exact q
      · rw [decide_eq_false h1] at q
        exact q
/-- a tuple of just so many -/
def tupD (m : Nat) : PyData → Bool
  | .tuple ds => decide (ds.length = m)
  | _ => false
def spIsTuple (K : PySem.W.Frag) : Sp := fun vs H Q _ => ∃ (v : V) (d : PyData) (m : Nat), vs = [v, .int m] ∧ Tp H v d ∧ Q (.bl (tupD m d)) H
abbrev s_is_tuple : Stmt := topS 8
abbrev sc_is_tupleN : List Str := ["thing", "many"]
abbrev ps_is_tuple : List Str := ["thing", "many"]
theorem sc_is_tuple : FnScope sc_is_tupleN ps_is_tuple (defScope s_is_tuple) := ⟨rfl, rfl, rfl, by decide +kernel, rfl, by decide +kernel, by decide +kernel⟩
theorem ok_is_tuple {f : Addr} {fd : FuncData} (F : Fun K "is_tuple" "is_tuple" s_is_tuple f fd) (T : Txt K mg CS) : FnOk P w K mg base CX0 1 f fd ps_is_tuple (spIsTuple K) := by
  refine F.ok sc_is_tuple (fun vs H Q E h => ?_) (fun cdv A outer s H vs Q E hr h => ?_)
  · obtain ⟨_, _, _, rfl, _⟩ := h
    rfl
  · obtain ⟨v, d, m, rfl, hv, k⟩ := h
    refine ⟨_, (pss_one (ps_ret (pe_and (pe_callB call_isi (by rfl) T.n_isinstance (by decide +kernel) (pa_cons (pv 0) (pa_cons (pe_bltn (v := .ty "tuple") (by rfl) T.n_tuple (by decide +kernel) rfl) pa_nil))) (pe_one (pe_cmpR op_eq (pe_callB call_len_seq (by rfl) T.n_len (by decide +kernel) (pa_cons (pv 0) pa_nil)) (pv 1) (nomark _)))))), ?_⟩
    refine ⟨_, rfl, _, _, _, _, _, rfl, .ty _, hv.ty, kit_ty (kit_d (by simp)), _, rfl, ?_⟩
    cases d with
    | tuple ds =>
      obtain ⟨a, xs, rfl, hx, ha⟩ := hv.tuple
      refine iteT ⟨_, rfl, a, xs, rfl, .inr (.inl (.inl hx)), _, rfl, rfl, ?_⟩
      rw [ha.len]
      have e : decide (V.int (ds.length : Int) = V.int (m : Int)) = decide (ds.length = m) := by
        by_cases h : ds.length = m
        · rw [decide_eq_true h, h]
          exact decide_eq_true rfl
        · rw [decide_eq_false h]
          exact decide_eq_false fun z => h (Int.ofNat.inj (V.int.inj z))
      show Q (V.bl (decide (V.int (ds.length : Int) = V.int (m : Int)))) H
      rw [e]
      exact k
    | none => exact iteF k
    | bool _ => exact iteF k
    | int _ => exact iteF k
    | str _ => exact iteF k
    | list _ => exact iteF k
    | dict _ => exact iteF k
/-- the texts among the parts -/
def strsD : List PyData → List Str
  | [] => []
  | .str s :: ds => s :: strsD ds
  | _ :: ds => strsD ds
theorem strs_all : ∀ {ds : List PyData}, ds.all isNmD = true → ds = (strsD ds).map PyData.str ∧ (strsD ds).all isNm = true
  | [], _ => ⟨rfl, rfl⟩
  | d :: ds, h => by
    rw [List.all_cons, Bool.and_eq_true] at h
    obtain ⟨z1, z2⟩ := strs_all h.2
    cases d with
    | str s =>
      refine ⟨?_, ?_⟩
      · show PyData.str s :: ds = PyData.str s :: (strsD ds).map PyData.str
        rw [← z1]
      · show (s :: strsD ds).all isNm = true
        rw [List.all_cons, z2, Bool.and_true]
        exact h.1
    | _ => cases h.1
/-- so many names, none twice -/
def nmsD (lo hi : Int) (d : PyData) : Bool := rowD3 lo hi d && (partsD d).all isNmD && decide (strsD (partsD d)).Nodup
theorem isNm_len {s : Str} (h : isNm s = true) : s.length ≤ 100000 := by
  unfold isNm at h
  simp only [Bool.and_eq_true, decide_eq_true_eq] at h
  omega
def spAreNames (K : PySem.W.Frag) : Sp := fun vs H Q _ => ∃ (v : V) (d : PyData) (lo hi : Int), vs = [v, .int lo, .int hi] ∧ Tp H v d ∧ siz d ≤ 100000 ∧ mst d ≤ 100000 ∧ hi ≤ 100 ∧ ∀ H', Same H H' → Q (.bl (nmsD lo hi d)) H'
abbrev s_are_names : Stmt := topS 9
abbrev sc_are_namesN : List Str := ["thing", "least", "most", "name"]
abbrev ps_are_names : List Str := ["thing", "least", "most"]
theorem sc_are_names : FnScope sc_are_namesN ps_are_names (defScope s_are_names) := ⟨rfl, rfl, rfl, by decide +kernel, rfl, by decide +kernel, by decide +kernel⟩
theorem ok_are_names {f : Addr} {fd : FuncData} (F : Fun K "are_names" "are_names" s_are_names f fd) (T : Txt K mg CS) (D_is_row : Df P w K mg base "is_row" 1 ps_is_row (spIsRow K)) (D_is_name : Df P w K mg base "is_name" 1 ps_is_name (spIsName K)) :
    FnOk P w K mg base CX0 2 f fd ps_are_names (spAreNames K) := by
  refine F.ok sc_are_names (fun vs H Q E h => ?_) (fun cdv A outer s H vs Q E hr h => ?_)
  · obtain ⟨_, _, _, _, rfl, _⟩ := h
    rfl
  · obtain ⟨v, d, lo, hi, rfl, hv, hs, hm, hi100, k⟩ := h
    refine ⟨_, (pss_cons (ps_if (PW.pt (pw_or (pt_not (pt_val (pe_d D_is_row (hr.mono (by decide)) (pa_cons (pv 0) (pa_cons (pv 1) (pa_cons (pv 2) pa_nil)))))) (pw_or1 (pt_not (pt_val (pe_callB (cr_all (by rfl)) (by rfl) T.n_all (by decide +kernel) (pa_cons (pe_lc (own := [("name", 3)]) (g := gName 3) (tt := tYes) (by rfl) sc_are_names.nd (pi_any (pv 0)) (blkOk_by (own := [("name", 3)]) (N := sc_are_namesN) (sc := defScope s_are_names) (by decide +kernel)) (fun _ _ _ _ _ => pg_name (i := 3) sc_are_names.nd rfl (Or.inl rfl)) (fun _ _ _ _ _ => pts_nil) (fun _ _ _ _ _ => (pe_d D_is_name (hr.mono (by decide)) (pa_cons (pv 3) pa_nil)))) pa_nil)))))))
    (pss_one (ps_ret pe_bl))
    pss_nil)
  (pss_one (ps_ret (pe_cmpR op_eq (pe_lenS (by rfl) T.n_len T.n_set (pv 0)) (pe_callB call_len_seq (by rfl) T.n_len (by decide +kernel) (pa_cons (pv 0) pa_nil)) (nomark _))))), ?_⟩
    refine ⟨_, rfl, _, rfl, _, rfl, v, d, lo, hi, rfl, hv, fun H1 s1 => ⟨_, rfl, ?_⟩⟩
    unfold nmsD at k
    cases er : rowD3 lo hi d with
    | false =>
      rw [er] at k
      exact iteT (iteT (k _ s1))
    | true =>
      rw [er] at k
      have e : isRowD d = true := by
        unfold rowD3 at er
        simp only [Bool.and_eq_true] at er
        exact er.1.1
      obtain ⟨a, xs, rfl, hx, ha⟩ := (hv.same s1).row e
      have ls2 : ((partsD d).length : Int) ≤ hi := by
        unfold rowD3 at er
        simp only [Bool.and_eq_true, decide_eq_true_eq] at er
        exact er.2
      have ls : (partsD d).length ≤ 100000 := by
        have z := siz_len (partsD d)
        rw [siz_row e] at hs
        omega
      refine iteF ⟨_, rfl, a, xs, rfl, any_of (K := K) (rw_sq hx) (Same.refl _) fun J G gm wk => (fun D hD => ?_)⟩
      refine lc_it wk (fun i H' => Same H1 H' ∧ H' D = some (.lst (((partsD d).take i).map fun c => V.bl (isNmD c)))) ⟨same_new _ hD, by rw [upd_same]; rfl⟩ (fun i H' _ z => gm H' z.1) ?_ ?_
      · rintro i x H2 H3 hi2 ⟨s2, d2⟩ ⟨rfl, hxi⟩
        obtain ⟨c, hc, hcv⟩ := ha.at hxi
        have mc : mst c ≤ 100000 := by
          have z := mst_mem (List.mem_of_getElem? hc)
          rw [mst_row e] at hm
          omega
        refine ⟨rfl, _, rfl, x, isNmD c, rfl, nm_case (hcv.same s2) mc, fun H4 s4 => ?_⟩
        refine ⟨_, s4 _ _ d2, take_lt _ ls, same_put (s2.trans s4) _ hD, ?_⟩
        rw [upd_same, map_take _ hc]
      · rintro H2 ⟨s2, d2⟩
        rw [ha.len, List.take_length] at d2
        have e2 : (partsD d).map (fun c => V.bl (isNmD c)) = ((partsD d).map isNmD).map V.bl := by
          rw [List.map_map]
          rfl
        rw [e2] at d2
        refine ⟨D, _, rfl, .inl (.inl d2), _, rfl, ?_⟩
        have e3 : ((partsD d).map isNmD).all id = (partsD d).all isNmD := by
          rw [List.all_map]
          rfl
        rw [e3]
        cases ea : (partsD d).all isNmD with
        | false =>
          rw [ea] at k
          exact iteT (k _ (s1.trans s2))
        | true =>
          rw [ea] at k
          obtain ⟨z1, z2⟩ := strs_all ea
          generalize strsD (partsD d) = fs at *
          have ex : xs = fs.map V.str := by
            have y := ha
            rw [z1] at y
            clear ha k z1 z2 e2 e3 ea d2 hx s2 gm wk ls ls2
            induction fs generalizing xs with
            | nil => cases y; rfl
            | cons f fs ih =>
              cases y with
              | cons y1 y2 =>
                rw [y1.strI, ih _ y2]
                rfl
          rw [ex] at hx
          have lf : fs.length ≤ 100 := by
            rw [z1, List.length_map] at ls2
            omega
          refine iteF ⟨_, rfl, a, fs, rfl, rw_sq (hx.same s2), lf, _, rfl, a, _, rfl, rw_sq (hx.same s2), rfl, ?_⟩
          have e4 : decide (V.int (dis fs : Int) = V.int ((fs.map V.str).length : Int)) = decide fs.Nodup := by
            rw [List.length_map]
            by_cases n : fs.Nodup
            · rw [decide_eq_true n]
              exact decide_eq_true (by rw [(dis_full fs).mpr n])
            · rw [decide_eq_false n]
              exact decide_eq_false fun z => n ((dis_full fs).mp (Int.ofNat.inj (V.int.inj z)))
          show Q (V.bl (decide (V.int (dis fs : Int) = V.int ((fs.map V.str).length : Int)))) H2
          rw [e4]
          exact k _ (s1.trans s2)
end
end Fm

/-! ## K08C -/
set_option Elab.async false
set_option maxRecDepth 100000
set_option maxHeartbeats 4000000
namespace Fm
open PySem L2
/-- a def that promises nothing keeps it -/
theorem fn_no {P : Program} {w : World} {K : PySem.W.Frag} {mg : Str → Option Value} {base : Heap} {k : Nat} {f : Addr} {fd : FuncData} {ps : List Str} {sp : Sp} (h : ∀ vs H Q E, sp vs H Q E → False) : FnOk P w K mg base CX0 k f fd ps sp :=
  ⟨fun vs H Q E z => (h vs H Q E z).elim, fun _ _ _ H _ _ vs Q E _ _ _ _ z => (h vs H Q E z).elim⟩
theorem tupd_parts {d : PyData} (h : isRowD d = true) : tupd d = .tuple ((partsD d).map tupd) := by
  cases d with
  | list ds => exact congrArg PyData.tuple (tupdL_map ds)
  | tuple ds => exact congrArg PyData.tuple (tupdL_map ds)
  | _ => cases h
theorem tupd_flat {d : PyData} (h : isRowD d = false) : tupd d = d := by
  cases d <;> first | rfl | cases h
section
variable {P : Program} {w : World} {K : PySem.W.Frag} {mg : Str → Option Value} {base : Heap} {CS CB : Addr}
/-- as_tuples: the same tree, all its rows as new tuples -/
def spTup (n : Nat) : Sp := fun vs H Q _ => ∃ (F : Hp) (v : V) (d : PyData), vs = [v] ∧ Same F H ∧ Tp F v d ∧ dep d < n ∧ siz d ≤ 100000 ∧ ∀ v' F' H', Grow F H F' H' → Tp F' v' (tupd d) → Q v' H'
abbrev s_as_tuples : Stmt := topS 10
abbrev sc_as_tuplesN : List Str := ["thing", "part"]
abbrev ps_as_tuples : List Str := ["thing"]
theorem sc_as_tuples : FnScope sc_as_tuplesN ps_as_tuples (defScope s_as_tuples) := ⟨rfl, rfl, rfl, by decide +kernel, rfl, by decide +kernel, by decide +kernel⟩
theorem ok_as_tuples {f : Addr} {fd : FuncData} (F : Fun K "as_tuples" "as_tuples" s_as_tuples f fd) (T : Txt K mg CS) (hm : mg "as_tuples" = some (.ref f)) (hb : Binds K fd ps_as_tuples []) : ∀ n, FnOk P w K mg base CX0 n f fd ps_as_tuples (spTup n)
  | 0 => fn_no fun vs H Q E h => by
    obtain ⟨_, _, d, _, _, _, hd, _⟩ := h
    exact absurd hd (Nat.not_lt_zero _)
  | n + 1 => by
    have D_as_tuples : Df P w K mg base "as_tuples" n ps_as_tuples (spTup n) := ⟨f, fd, ok_as_tuples F T hm hb n, hm, F.kp, hb⟩
    refine F.ok sc_as_tuples (fun vs H Q E h => ?_) (fun cdv A outer s H vs Q E hr h => ?_)
    · obtain ⟨_, _, _, rfl, _⟩ := h
      rfl
    · obtain ⟨F0, v, d, rfl, sF, hv, hd, hz, k⟩ := h
      refine ⟨_, (pss_cons (ps_if (pt_val (pe_callB call_isiT (by rfl) T.n_isinstance (by decide +kernel) (pa_cons (pv 0) (pa_cons (pe_tup (pa_cons (pe_bltn (v := .ty "list") (by rfl) T.n_list (by decide +kernel) rfl) (pa_cons (pe_bltn (v := .ty "tuple") (by rfl) T.n_tuple (by decide +kernel) rfl) pa_nil))) pa_nil))))
    (pss_one (ps_ret (pe_callTy call_tuple_of (by rfl) T.n_tuple (by decide +kernel) (pa_cons (pe_lc (own := [("part", 1)]) (g := gName 1) (tt := tYes) (by rfl) sc_as_tuples.nd (pi_any (pv 0)) (blkOk_by (own := [("part", 1)]) (N := sc_as_tuplesN) (sc := defScope s_as_tuples) (by decide +kernel)) (fun _ _ _ _ _ => pg_name (i := 1) sc_as_tuples.nd rfl (Or.inl rfl)) (fun _ _ _ _ _ => pts_nil) (fun _ _ _ _ _ => (pe_d D_as_tuples hr (pa_cons (pv 1) pa_nil)))) pa_nil))))
    pss_nil)
  (pss_one (ps_ret (pv 0)))), ?_⟩
      refine ⟨_, rfl, (by show 2 ≤ sizeLine; decide), fun tp htp => ?_⟩
      have s1 : Same H (upd H tp (.tup [.ty "list", .ty "tuple"])) := same_new _ htp
      have sF1 := sF.trans s1
      have g1 : Grow F0 H F0 (upd H tp (.tup [.ty "list", .ty "tuple"])) := (Grow.refl sF).junk (sF.free htp) htp _
      refine ⟨_, tp, _, _, _, _, rfl, upd_same, clsLT, (hv.same sF1).ty, kitAny_row, _, rfl, ?_⟩
      cases e : isRowD d with
      | false =>
        rw [tupd_flat e] at k
        exact iteF ⟨_, rfl, k _ F0 _ g1 hv⟩
      | true =>
        obtain ⟨a, xs, rfl, hx, ha⟩ := hv.row e
        rw [dep_row e] at hd
        rw [siz_row e] at hz
        have ls := siz_len (partsD d)
        generalize upd H tp (.tup [.ty "list", .ty "tuple"]) = H1 at *
        refine iteT ⟨_, rfl, a, xs, rfl, any_of (K := K) (rw_sq hx) sF1 fun J G gm wk => (fun D hD => ?_)⟩
        refine lc_it wk (fun i H' => ∃ F' ys, Acc F0 H1 D F' H' ys ∧ TpAll F' ys (((partsD d).take i).map tupd)) ⟨F0, [], Acc.start sF1 hD, .nil⟩ (fun i H' _ z => by obtain ⟨F', ys, ac, _⟩ := z; exact gm H' (ac.g.ff.trans ac.g.fh)) ?_ ?_
        · rintro i x H2 H3 hi ⟨F2, ys, ac, ta⟩ ⟨rfl, hxi⟩
          obtain ⟨c, hc, hcv⟩ := ha.at hxi
          have mc := List.mem_of_getElem? hc
          have y1 := dep_mem mc
          have y2 := siz_mem mc
          refine ⟨rfl, _, rfl, F2, x, c, rfl, ac.g.fh, hcv.same ac.g.ff, by omega, by omega, fun y F3 H4 g ty => ?_⟩
          have ac2 := ac.then g
          refine ⟨ys, ac2.at_, ?_, F3, ys ++ [y], ac2.add _, ?_⟩
          · rw [ta.len, List.length_map, List.length_take]
            exact Nat.lt_of_le_of_lt (show min i (partsD d).length ≤ 100000 by omega) (by decide)
          · rw [map_take _ hc]
            exact (ta.same g.ff).snoc ty
        · rintro H2 ⟨F2, ys, ac, ta⟩
          rw [ha.len, List.take_length] at ta
          rw [tupd_parts e] at k
          refine ⟨D, ys, rfl, .inl ⟨.inl (.inl ac.at_), fun l hl => ?_⟩⟩
          exact k _ _ _ (g1.trans (ac.g.trans (Grow.new ac.g.fh _ hl))) (.tup upd_same (ta.same (same_new _ (ac.g.fh.free hl))))
def tableD : PyData → Bool
  | .tuple [a, b] => isNmD a && nmsD 1 4 b
  | _ => false
def nameT : PyData → Str
  | .tuple (.str s :: _) => s
  | _ => ""
def spIsTable : Sp := fun vs H Q _ => ∃ (v : V) (d : PyData), vs = [v] ∧ Tp H v d ∧ siz d ≤ 100000 ∧ mst d ≤ 100000 ∧ ∀ H', Same H H' → Q (.bl (tableD d)) H'
abbrev s_is_table : Stmt := topS 23
abbrev sc_is_tableN : List Str := ["thing"]
abbrev ps_is_table : List Str := ["thing"]
theorem sc_is_table : FnScope sc_is_tableN ps_is_table (defScope s_is_table) := ⟨rfl, rfl, rfl, by decide +kernel, rfl, by decide +kernel, by decide +kernel⟩
theorem ok_is_table {f : Addr} {fd : FuncData} (F : Fun K "is_table" "is_table" s_is_table f fd) (T : Txt K mg CS) (D_is_tuple : Df P w K mg base "is_tuple" 1 ps_is_tuple (spIsTuple K)) (D_is_name : Df P w K mg base "is_name" 1 ps_is_name (spIsName K)) (D_are_names : Df P w K mg base "are_names" 2 ps_are_names (spAreNames K)) :
    FnOk P w K mg base CX0 3 f fd ps_is_table spIsTable := by
  refine F.ok sc_is_table (fun vs H Q E h => ?_) (fun cdv A outer s H vs Q E hr h => ?_)
  · obtain ⟨_, _, rfl, _⟩ := h
    rfl
  · obtain ⟨v, d, rfl, hv, hz, hm, k⟩ := h
    refine ⟨_, (pss_one (ps_ret (pe_and (pe_d D_is_tuple (hr.mono (by decide)) (pa_cons (pv 0) (pa_cons pe_int pa_nil))) (pe_and (pe_d D_is_name (hr.mono (by decide)) (pa_cons (pe_ix ix_tup (pv 0) pe_int (fun _ _ => rfl)) pa_nil)) (pe_one (pe_d D_are_names (hr.mono (by decide)) (pa_cons (pe_ix ix_tup (pv 0) pe_int (fun _ _ => rfl)) (pa_cons pe_int (pa_cons (pe_gI T.g_MOST_FIELDS) pa_nil))))))))), ?_⟩
    refine ⟨_, rfl, v, d, 2, rfl, hv, _, rfl, ?_⟩
    cases e : tupD 2 d with
    | false =>
      have z : tableD d = false := by
        cases d with
        | tuple ds => match ds, e with
          | [], _ => rfl
          | [_], _ => rfl
          | [_, _], e => cases e
          | _ :: _ :: _ :: _, _ => rfl
        | _ => rfl
      rw [z] at k
      exact iteF (k _ (Same.refl _))
    | true =>
      obtain ⟨a, b, rfl⟩ : ∃ a b, d = .tuple [a, b] := by
        cases d with
        | tuple ds => match ds, e with
          | [], e => cases e
          | [_], e => cases e
          | [a, b], _ => exact ⟨a, b, rfl⟩
          | _ :: _ :: _ :: _, e => cases e
        | _ => cases e
      obtain ⟨p, xs, rfl, hp, ha⟩ := hv.tuple
      obtain ⟨x, hx, tx⟩ := ha.to (i := 0) rfl
      obtain ⟨y, hy, ty⟩ := ha.to (i := 1) rfl
      have ma := mst_mem (ds := [a, b]) (d := a) (by simp)
      have mb := mst_mem (ds := [a, b]) (d := b) (by simp)
      have zb := siz_mem (ds := [a, b]) (d := b) (by simp)
      have hm2 : mstL [a, b] ≤ 100000 := hm
      have hz2 : 1 + sizL [a, b] ≤ 100000 := hz
      refine iteT ⟨_, rfl, p, xs, 0, x, rfl, rfl, .inl (.inl hp), atI_nat hx, x, isNmD a, rfl, nm_case tx (by omega), fun H1 s1 => ⟨_, rfl, ?_⟩⟩
      have k2 : ∀ H', Same H H' → Q (.bl (isNmD a && nmsD 1 4 b)) H' := k
      cases ea : isNmD a with
      | false =>
        rw [ea] at k2
        exact iteF (k2 _ s1)
      | true =>
        rw [ea] at k2
        exact iteT ⟨_, rfl, p, xs, 1, y, rfl, rfl, .inl (.inl (s1 _ _ hp)), atI_nat hy, y, b, 1, 4, rfl, ty.same s1, by omega, by omega, by decide, fun H2 s2 => k2 _ (s1.trans s2)⟩
def firstBadT (names : List Str) : List PyData → Option Nat
  | [] => none
  | d :: ds => if tableD d = true ∧ nameT d ∉ names then (firstBadT (names ++ [nameT d]) ds).map (· + 1) else some 0
def shapeBad (d : PyData) : Option Int := if rowD3 1 5 d = true then (firstBadT [] (partsD d)).map Int.ofNat else some (-1)
def ErrAt (H : Hp) (i : Int) (E : Option Addr → Hp → Prop) : Prop := ∀ (d : Addr) (H' : Hp), Same H H' → H d = none → H' d = some (.xd [("at", .int i)]) → E (some d) H'
def spCheck (CB : Addr) : Sp := fun vs H Q E => ∃ (v : V) (d : PyData), vs = [v] ∧ Tp H v d ∧ siz d ≤ 100000 ∧ mst d ≤ 100000 ∧ (shapeBad d = none → ∀ H', Same H H' → Q .non H') ∧ ∀ i, shapeBad d = some i → ErrAt H i (E (.ref CB))
theorem first_ok {names : List Str} {d : PyData} {ds : List PyData} (h : tableD d = true) (n : nameT d ∉ names) : firstBadT names (d :: ds) = (firstBadT (names ++ [nameT d]) ds).map (· + 1) := by
  show (if _ then _ else _) = _
  rw [if_pos ⟨h, n⟩]
theorem first_bad {names : List Str} {d : PyData} {ds : List PyData} (h : ¬ (tableD d = true ∧ nameT d ∉ names)) : firstBadT names (d :: ds) = some 0 := by
  show (if _ then _ else _) = _
  rw [if_neg h]
theorem table_str {H : Hp} {v : V} {d : PyData} (hv : Tp H v d) (h : tableD d = true) : ∃ p r e, v = .ref p ∧ H p = some (.tup [.str (nameT d), r]) ∧ d = .tuple [.str (nameT d), e] ∧ Tp H r e := by
  cases d with
  | tuple ds =>
    match ds, h with
    | [], h => cases h
    | [_], h => cases h
    | _ :: _ :: _ :: _, h => cases h
    | [c, e], h =>
      have h2 : (isNmD c && nmsD 1 4 e) = true := h
      rw [Bool.and_eq_true] at h2
      obtain ⟨p, xs, rfl, hp, ha⟩ := hv.tuple
      cases c with
      | str s =>
        cases ha with
        | cons h1 h2 =>
          cases h2 with
          | cons h3 h4 =>
            cases h4
            rw [h1.strI] at hp
            exact ⟨p, _, e, rfl, hp, rfl, h3⟩
      | _ => cases h2.1
  | _ => cases h
abbrev s_check_tables : Stmt := topS 22
abbrev sc_check_tablesN : List Str := ["tables", "names", "at", "table"]
abbrev ps_check_tables : List Str := ["tables"]
theorem sc_check_tables : FnScope sc_check_tablesN ps_check_tables (defScope s_check_tables) := ⟨rfl, rfl, rfl, by decide +kernel, rfl, by decide +kernel, by decide +kernel⟩
theorem ok_check_tables {f : Addr} {fd : FuncData} (F : Fun K "check_tables" "check_tables" s_check_tables f fd) (T : Txt K mg CS) (X_BadShape : Xf P w K mg base "BadShape" CB "at") (D_is_row : Df P w K mg base "is_row" 1 ps_is_row (spIsRow K)) (D_is_table : Df P w K mg base "is_table" 3 ps_is_table spIsTable) :
    FnOk P w K mg base (L2.CX P w) 4 f fd ps_check_tables (spCheck CB) := by
  refine F.okX sc_check_tables (fun vs H Q E h => ?_) (fun cdv A outer s H vs Q E hr h => ?_)
  · obtain ⟨_, _, rfl, _⟩ := h
    rfl
  · obtain ⟨v, d, rfl, hv, hz, hm, kQ, kE⟩ := h
    obtain ⟨Tx, hno⟩ := X_BadShape.oex
    refine ⟨_, (pss_cons (ps_if (pt_not (pt_val (pe_d D_is_row (hr.mono (by decide)) (pa_cons (pv 0) (pa_cons pe_int (pa_cons (pe_gI T.g_MOST_TABLES) pa_nil))))))
    (pss_one (ps_rG X_BadShape (hr.mono (by decide)) (takes_of rfl rfl rfl rfl) (pe_un un_neg pe_int)))
    pss_nil)
  (pss_cons (ps_set (i := 1) sc_check_tables.nd rfl (Or.inl rfl) (pe_lst pa_nil))
  (pss_one (ps_for PassesOwn.leaving rfl (pi_enumA (by rfl) T.n_enumerate (pa_cons (pv 0) pa_nil)) (pg_tup (by rfl) (pgs_cons (pg_name (i := 2) sc_check_tables.nd rfl (Or.inl rfl)) (pgs_cons (pg_name (i := 3) sc_check_tables.nd rfl (Or.inl rfl)) pgs_nil)))
    (pss_cons (ps_if (PW.pt (pw_or (pt_not (pt_val (pe_d D_is_table (hr.mono (by decide)) (pa_cons (pv 3) pa_nil)))) (pw_or1 (pt_cmpR op_in_seq (pe_ix ix_tup (pv 3) pe_int (fun _ _ => rfl)) (pv 1) (by rfl)))))
      (pss_one (ps_rE X_BadShape (hr.mono (by decide)) (takes_of rfl rfl rfl rfl) (pv 2)))
      pss_nil)
    (pss_one (ps_expr (pe_bm PySem.F.plainAttrs_list PySem.F.slot_list_append PySem.F.type_list_append mt_append (pv 1) (pa_cons (pe_ix ix_tup (pv 3) pe_int (fun _ _ => rfl)) pa_nil))))))))), ?_⟩
    refine ⟨_, rfl, v, d, 1, 5, rfl, hv, fun H1 s1 => ⟨_, rfl, ?_⟩⟩
    cases er : rowD3 1 5 d with
    | false =>
      have z : shapeBad d = some (-1) := by
        unfold shapeBad
        rw [er]
        rfl
      refine iteT ⟨1, rfl, (by show 1 ≤ 1000; decide), fun a ha => init_read (v := .int (-1)) (Q := fun cls d H' => E cls d H') Tx hno ha fun dd hd => ?_⟩
      exact kE _ z dd _ (s1.trans (same_new _ hd)) (s1.free hd) upd_same
    | true =>
      have z : shapeBad d = (firstBadT [] (partsD d)).map Int.ofNat := by
        unfold shapeBad
        rw [er]
        rfl
      have e : isRowD d = true := by
        unfold rowD3 at er
        simp only [Bool.and_eq_true] at er
        exact er.1.1
      have l5 : (partsD d).length ≤ 5 := by
        unfold rowD3 at er
        simp only [Bool.and_eq_true, decide_eq_true_eq] at er
        have y := er.2
        omega
      obtain ⟨a, xs, rfl, hx, ha⟩ := (hv.same s1).row e
      rw [siz_row e] at hz
      rw [mst_row e] at hm
      rw [z] at kQ kE
      refine iteF ⟨Nat.zero_le _, fun l hl => ?_⟩
      refine ⟨_, rfl, a, xs, rfl, enum_of (K := K) (rw_sq hx) (same_new _ hl) fun J G gm wk => ?_⟩
      refine for_it wk (fun i σ H' => ∃ v2 v3, σ = [some (.ref a), some (.ref l), v2, v3] ∧ Same H1 H' ∧ H' l = some (.lst (((partsD d).take i).map fun c => V.str (nameT c))) ∧ firstBadT [] (partsD d) = (firstBadT (((partsD d).take i).map nameT) ((partsD d).drop i)).map (· + i))
        ⟨_, _, rfl, same_new _ hl, by rw [upd_same]; rfl, by simp⟩ (fun i σ H' _ z => by obtain ⟨_, _, _, z, _⟩ := z; exact gm H' z) ?_ ?_
      · rintro i x σ H2 H3 hi ⟨v2, v3, rfl, s2, d2, inv⟩ ⟨T0, x1, y, rfl, hT, rfl, e1, hy⟩
        obtain rfl : V.int (i : Nat) = x1 := Option.some.inj e1
        obtain ⟨c, hc, hcv⟩ := ha.at hy
        have mc := List.mem_of_getElem? hc
        have yz := siz_mem mc
        have ym := mst_mem mc
        have dr : (partsD d).drop i = c :: (partsD d).drop (i + 1) := by
          obtain ⟨hl, q⟩ := List.getElem?_eq_some_iff.mp hc
          rw [← q]
          exact List.drop_eq_getElem_cons hl
        rw [dr] at inv
        have s3 : Same H1 (upd H2 T0 (.tup [V.int (i : Nat), y])) := s2.trans (same_new _ hT)
        have nlT : l ≠ T0 := ne_of_none d2 hT
        have hT' : (upd H2 T0 (.tup [V.int (i : Nat), y])) T0 = some (.tup [V.int (i : Nat), y]) := upd_same
        have d3 : (upd H2 T0 (.tup [V.int (i : Nat), y])) l = some (.lst (((partsD d).take i).map fun c => V.str (nameT c))) := by rw [upd_ne nlT]; exact d2
        generalize upd H2 T0 (.tup [V.int (i : Nat), y]) = H4 at *
        refine ⟨T0, _, rfl, .inl (.inl hT'), rfl, _, _, rfl, _, _, rfl, rfl, ?_⟩
        have raise : ∀ {G : Hp}, Same H1 G → firstBadT [] (partsD d) = some i → ∀ dd, G dd = none → E (.ref CB) (some dd) (upd G dd (.xd [("at", .int (i : Nat))])) := fun sG q dd hd =>
          kE (i : Nat) (by rw [q]; rfl) dd _ (s1.trans (sG.trans (same_new _ hd))) (s1.free (sG.free hd)) upd_same
        refine ⟨_, rfl, y, c, rfl, hcv.same s3, by omega, by omega, fun H5 s5 => ⟨_, rfl, ?_⟩⟩
        cases et : tableD c with
        | false =>
          have q : firstBadT [] (partsD d) = some i := by
            rw [inv, first_bad (fun z => by rw [et] at z; cases z.1)]
            show some (0 + i) = some i
            rw [Nat.zero_add]
          exact iteT (iteT ⟨_, rfl, fun dd hd => raise (s3.trans s5) q dd hd⟩)
        | true =>
          obtain ⟨p, r, e2, rfl, hp, ec, hr2⟩ := table_str (hcv.same (s3.trans s5)) et
          have d5 := s5 _ _ d3
          refine iteF ⟨_, rfl, p, _, 0, .str (nameT c), rfl, rfl, .inl (.inl hp), rfl, _, rfl, l, _, rfl, .inl (.inl (.inl d5)), rfl, ?_, _, rfl, ?_⟩
          · rw [List.all_map]
            simp [flatV]
          · have ei : inV (V.str (nameT c)) (((partsD d).take i).map fun c => V.str (nameT c)) = decide (nameT c ∈ ((partsD d).take i).map nameT) := by
              have z := inV_str (nameT c) (((partsD d).take i).map nameT)
              rw [List.map_map] at z
              exact z
            show (if inV (V.str (nameT c)) (((partsD d).take i).map fun c => V.str (nameT c)) = true then _ else _)
            rw [ei]
            refine ifd (fun yes => ?_) fun no => ?_
            · have q : firstBadT [] (partsD d) = some i := by
                rw [inv, first_bad (fun z => z.2 yes)]
                show some (0 + i) = some i
                rw [Nat.zero_add]
              exact ⟨_, rfl, fun dd hd => raise (s3.trans s5) q dd hd⟩
            · refine ⟨_, rfl, .inl ⟨rfl, _, .inl (.inl d5)⟩, _, rfl, p, _, 0, .str (nameT c), rfl, rfl, .inl (.inl hp), rfl, l, _, _, rfl, rfl, d5, take_lt _ (by omega), ?_⟩
              refine ⟨_, _, rfl, same_put (s3.trans s5) _ hl, ?_, ?_⟩
              · rw [upd_same, map_take _ hc]
              · rw [inv, first_ok et no, map_take _ hc]
                cases firstBadT (((partsD d).take i).map nameT ++ [nameT c]) ((partsD d).drop (i + 1)) with
                | none => rfl
                | some j =>
                  show some (j + 1 + i) = some (j + (i + 1))
                  rw [Nat.add_assoc, Nat.add_comm 1 i]
      · rintro σ H2 ⟨v2, v3, rfl, s2, d2, inv⟩
        rw [ha.len, List.drop_length] at inv
        exact kQ (by rw [inv]; rfl) _ (s1.trans s2)
end
end Fm

/-! ## K08D -/
set_option Elab.async false
set_option maxRecDepth 100000
set_option maxHeartbeats 4000000
namespace Fm
open PySem L2
/-! ### a shape is made of anything -/
def shF (v : V) : List (Str × V) := [("tables", v)]
/-- a shape stands at x, with this tree of tables -/
def ShT (CS : Addr) (F : Hp) (x : Addr) (d : PyData) : Prop := ∃ dx v, F x = some (.ins CS dx (shF v)) ∧ Tp F v d
theorem ShT.same {CS : Addr} {F F' : Hp} {x : Addr} {d : PyData} (h : ShT CS F x d) (s : Same F F') : ShT CS F' x d := by
  obtain ⟨dx, v, h1, h2⟩ := h
  exact ⟨dx, v, s _ _ h1, h2.same s⟩
section
variable {P : Program} {w : World} {K : PySem.W.Frag} {mg : Str → Option Value} {base : Heap} {CS CB : Addr}
def spShInit (CS CB : Addr) : Sp := fun vs H Q E => ∃ (F : Hp) (x dx : Addr) (v : V) (d : PyData), vs = [.ref x, v] ∧ H x = some (.ins CS dx []) ∧ Same F H ∧ F x = none ∧ Tp F v d ∧ dep d < 40 ∧ siz d ≤ 100000 ∧ mst d ≤ 100000 ∧
  (∀ i, shapeBad d = some i → ErrAt H i (E (.ref CB))) ∧ (shapeBad d = none → ∀ tv F' H', Grow F H F' H' → Tp F' tv (tupd d) → Q .non (upd H' x (.ins CS dx (shF tv))))
abbrev s_Shape_init : Stmt := inClass (topS 21) 0
abbrev sc_Shape_initN : List Str := ["self", "tables"]
abbrev ps_Shape_init : List Str := ["self", "tables"]
theorem sc_Shape_init : FnScope sc_Shape_initN ps_Shape_init (defScope s_Shape_init) := ⟨rfl, rfl, rfl, by decide +kernel, rfl, by decide +kernel, by decide +kernel⟩
theorem ok_Shape_init {f : Addr} {fd : FuncData} (F : Fun K "__init__" "Shape.__init__" s_Shape_init f fd) (T : Txt K mg CS) (D_check_tables : DfX P w K mg base "check_tables" 4 ps_check_tables (spCheck CB)) (D_as_tuples : Df P w K mg base "as_tuples" 40 ps_as_tuples (spTup 40)) :
    FnOk P w K mg base (L2.CX P w) 41 f fd ps_Shape_init (spShInit CS CB) := by
  refine F.okX sc_Shape_init (fun vs H Q E h => ?_) (fun cdv A outer s H vs Q E hr h => ?_)
  · obtain ⟨_, _, _, _, _, rfl, _⟩ := h
    rfl
  · obtain ⟨F0, x, dx, v, d, rfl, hx, sF, fx, hv, hd, hz, hm, kE, kQ⟩ := h
    refine ⟨_, (pss_cons (ps_expr (pe_dE D_check_tables (hr.mono (by decide)) (takes_of rfl rfl rfl rfl) (pa_cons (pv 1) pa_nil)))
  (pss_one (ps_fld (pv 0) (pe_d D_as_tuples (hr.mono (by decide)) (pa_cons (pv 1) pa_nil)) rfl))), ?_⟩
    refine ⟨_, rfl, v, d, rfl, hv.same sF, hz, hm, fun e H1 s1 => ?_, fun i e => kE i e⟩
    refine ⟨_, rfl, F0, v, d, rfl, sF.trans s1, hv, hd, hz, fun tv F' H' g ht => ?_⟩
    have g2 : Grow F0 H F' H' := ⟨g.ff, g.fh, fun a o e1 e2 => g.hh a o e1 (s1 _ _ e2)⟩
    have hx2 := g2.same sF _ _ hx
    exact ⟨_, rfl, x, CS, dx, [], rfl, hx2, T.cl, T.nT, (by show 0 < 1000; decide), kQ e tv F' H' g2 ht⟩
/-- what a caller of Shape has to say -/
theorem shape_made {F0 H : Hp} {x dx : Addr} {v : V} {d : PyData} {R : Hp → Prop} {E : XK} (sF : Same F0 H) (hv : Tp F0 v d) (hd : dep d < 40) (hz : siz d ≤ 100000) (hm : mst d ≤ 100000) (nx : H x = none) (nd : H dx = none) (ne : dx ≠ x)
    (kE : ∀ i, shapeBad d = some i → ErrAt H i (E (.ref CB))) (kQ : shapeBad d = none → ∀ F' H', Grow F0 H F' H' → ShT CS F' x (tupd d) → R H') :
    spShInit CS CB [.ref x, v] (upd (upd H dx (.own x)) x (.ins CS dx [])) (fun z H' => z = .non ∧ R H') E := by
  have s1 : Same H (upd (upd H dx (.own x)) x (.ins CS dx [])) := fun a o e => by
    rw [upd_ne (ne_of_none e nx), upd_ne (ne_of_none e nd)]
    exact e
  have fx := sF.free nx
  refine ⟨F0, x, dx, v, d, rfl, upd_same, sF.trans s1, fx, hv, hd, hz, hm, fun i e dd H' s hn h => kE i e dd H' (s1.trans s) (s1.free hn) h, fun e tv F' H' g ht => ⟨rfl, ?_⟩⟩
  have xF' : F' x = none := (g.hh x _ fx upd_same).1
  have sX : Same F' (upd F' x (.ins CS dx (shF tv))) := same_new _ xF'
  refine kQ e _ _ ⟨g.ff.trans sX, same_upd g.fh x _, fun a o e1 e2 => ?_⟩ ⟨dx, tv, upd_same, ht.same sX⟩
  obtain ⟨z1, z2⟩ := g.hh a o e1 (s1 _ _ e2)
  have n := ne_of_none e2 nx
  rw [upd_ne n, upd_ne n]
  exact ⟨z1, z2⟩
end
end Fm

/-! ## FmName -/
set_option Elab.async false
set_option maxRecDepth 100000
set_option maxHeartbeats 4000000
/-! Names that are drawn: letters put together, a letter behind a stem until it is new. -/
namespace Fm
open PySem L2
theorem bag_junk {F H : Hp} {b p : Addr} (B : Bag F H b) (o : HO) (hp : H p = none) : Bag F (upd H p o) b := bag_same B (same_new o hp)
theorem bag_sub {F F1 H : Hp} {b : Addr} (s : Same F F1) (B : Bag F1 H b) : Bag F H b := by
  obtain ⟨h, fb, cl, ns, p, g, z, c, hh, e1, r⟩ := B
  exact ⟨s.trans h, s.free fb, cl, ns, p, g, z, c, hh, s.free e1, r⟩
theorem at_mem {α : Type} {xs : List α} {r : Int} (h0 : 0 ≤ r) (h1 : r < (xs.length : Int)) : ∃ v, atI xs r = some v ∧ v ∈ xs := by
  obtain ⟨n, rfl⟩ : ∃ n : Nat, r = (n : Int) := ⟨r.toNat, by omega⟩
  have h : n < xs.length := by omega
  exact ⟨xs[n], atI_nat (List.getElem?_eq_getElem h), List.getElem_mem h⟩
theorem nodup_le {α : Type} [DecidableEq α] : ∀ {l m : List α}, l.Nodup → (∀ x ∈ l, x ∈ m) → l.length ≤ m.length
  | [], _, _, _ => Nat.zero_le _
  | x :: r, m, hN, hs => by
    have hx := hs x List.mem_cons_self
    have q := List.nodup_cons.mp hN
    have ih := nodup_le (l := r) (m := m.erase x) q.2 fun y hy => by
      have n : y ≠ x := fun z => q.1 (by rw [← z]; exact hy)
      exact (List.mem_erase_of_ne n).mpr (hs y (List.mem_cons_of_mem _ hy))
    rw [List.length_erase_of_mem hx] at ih
    have pos : 0 < m.length := List.length_pos_of_mem hx
    rw [List.length_cons]
    omega
abbrev one (c : Nat) : Str := ⟨#[c]⟩
def ofL (cs : List Nat) : Str := ⟨cs.toArray⟩
theorem isNm_ofL {cs : List Nat} (h1 : 1 ≤ cs.length) (h2 : cs.length ≤ 8) (h3 : ∀ c ∈ cs, 97 ≤ c ∧ c ≤ 122) : isNm (ofL cs) = true := by
  have l : (ofL cs).length = cs.length := by simp [ofL, Str.length]
  unfold isNm
  rw [l, decide_eq_true h1, decide_eq_true h2]
  show (cs.toArray.toList.all fun c => decide (97 ≤ c) && decide (c ≤ 122)) = true
  rw [List.all_eq_true]
  intro c m
  have q := h3 c (by simpa using m)
  simp [q.1, q.2]
theorem isNm_inv {s : Str} (h : isNm s = true) : 1 ≤ s.cps.toList.length ∧ s.cps.toList.length ≤ 8 ∧ ∀ c ∈ s.cps.toList, 97 ≤ c ∧ c ≤ 122 := by
  unfold isNm at h
  simp only [Bool.and_eq_true, List.all_eq_true, decide_eq_true_eq] at h
  have l : s.cps.toList.length = s.length := by simp [Str.length]
  rw [l]
  exact ⟨h.1.1, h.1.2, h.2⟩
theorem str_ext {s t : Str} (h : s.cps.toList = t.cps.toList) : s = t := by
  obtain ⟨a⟩ := s
  obtain ⟨b⟩ := t
  have e : a = b := Array.ext' h
  rw [e]
theorem ofL_of (s : Str) : ofL s.cps.toList = s := str_ext (by simp [ofL])
theorem joinL_nil : ∀ cs : List Nat, TL.joinL [] (cs.map fun c => [c]) = cs
  | [] => rfl
  | [_] => rfl
  | c :: d :: r => by
    show [c] ++ ([] ++ TL.joinL [] ((d :: r).map fun c => [c])) = c :: d :: r
    rw [joinL_nil (d :: r)]
    rfl
theorem join_one (cs : List Nat) : Txt.join "" (cs.map one) = ofL cs := by
  refine str_ext ?_
  have e := TL.tl_join "" (cs.map one)
  rw [List.map_map] at e
  rw [TL.join_eq]
  exact e.trans (joinL_nil cs)
theorem cutS_to (n : Str) (k : Nat) : cutS n none (some (k : Int)) = ofL (n.cps.toList.take k) := by
  have l : n.cps.toList.length = n.length := by simp [Str.length]
  unfold cutS
  rw [HT.sIx_none, HT.sIx_nat, List.drop_zero, Nat.sub_zero]
  show (⟨(n.cps.toList.take (min k n.length)).toArray⟩ : Str) = ⟨(n.cps.toList.take k).toArray⟩
  rw [← l, ← List.take_eq_take_min]
theorem cutV_to (xs : List V) (k : Nat) : cutV xs none (some (k : Int)) = xs.take k := by
  unfold cutV
  rw [HT.sIx_none, HT.sIx_nat, List.drop_zero, Nat.sub_zero, ← List.take_eq_take_min]
theorem add_one {l : List Nat} {c : Nat} : ofL l ++ one c = ofL (l ++ [c]) := by
  refine str_ext ?_
  show (l.toArray ++ #[c]).toList = _
  simp [ofL]
/-- the word of the turn i: first w itself, then its stem with one letter after another -/
def wd (w : Str) (st : List Nat) (i : Nat) : Str := if i = 0 then w else ofL (st ++ [96 + i])
theorem wd_inj {w : Str} {st : List Nat} {i j : Nat} (hi : i ≠ 0) (hj : j ≠ 0) (h : wd w st i = wd w st j) : i = j := by
  unfold wd at h
  rw [if_neg hi, if_neg hj] at h
  have q : (st ++ [96 + i]).toArray = (st ++ [96 + j]).toArray := congrArg Str.cps h
  have q2 : st ++ [96 + i] = st ++ [96 + j] := by simpa using q
  have q3 := List.append_cancel_left q2
  injection q3 with q4 _
  omega
theorem wd_nm {w : Str} (h : isNm w = true) (i : Nat) (hi : i ≤ 26) : isNm (wd w (w.cps.toList.take 7) i) = true := by
  obtain ⟨h1, h2, h3⟩ := isNm_inv h
  unfold wd
  by_cases e : i = 0
  · rw [if_pos e]
    exact h
  · rw [if_neg e]
    refine isNm_ofL (by simp) ?_ fun c m => ?_
    · rw [List.length_append, List.length_take, List.length_singleton]
      omega
    · rcases List.mem_append.mp m with m | m
      · exact h3 c (List.mem_of_mem_take m)
      · rw [List.mem_singleton.mp m]
        omega
theorem wd_few {w : Str} {st : List Nat} {tk : List Str} {n : Nat} (h : ∀ j, j < n → wd w st j ∈ tk) : n ≤ tk.length + 1 := by
  have q := nodup_le (l := (List.range (n - 1)).map fun j => wd w st (j + 1)) (m := tk) ?_ ?_
  · rw [List.length_map, List.length_range] at q
    omega
  · refine List.Pairwise.map _ (R := (· ≠ ·)) (fun a b hab e => hab ?_) List.nodup_range
    have z := wd_inj (Nat.succ_ne_zero a) (Nat.succ_ne_zero b) e
    omega
  · intro x m
    obtain ⟨j, hj, rfl⟩ := List.mem_map.mp m
    have z := List.mem_range.mp hj
    exact h (j + 1) (by omega)
end Fm

/-! ## K08E -/
set_option Elab.async false
set_option maxRecDepth 100000
set_option maxHeartbeats 4000000
namespace Fm
open PySem L2
theorem pss_never {X : Cx} {b : List Stmt} : PSs X b tNever := ⟨fun _ _ _ _ _ _ h => False.elim h⟩
section
variable {P : Program} {w : World} {K : PySem.W.Frag} {mg : Str → Option Value} {base : Heap} {CS : Addr}
def spBag (K : PySem.W.Frag) : Sp := fun vs H Q _ => ∃ (a : Addr) (ns : List Int), vs = [.ref a] ∧ SqL K H a (ns.map V.int) ∧ ns.length ≤ 63 ∧ ∀ b H', Bag nil0 H' b → Q (.ref b) H'
abbrev s_l_bag : Stmt := topS 51
abbrev sc_l_bagN : List Str := ["_law_script"]
abbrev ps_l_bag : List Str := ["_law_script"]
theorem sc_l_bag : FnScope sc_l_bagN ps_l_bag (defScope s_l_bag) := ⟨rfl, rfl, rfl, by decide +kernel, rfl, by decide +kernel, by decide +kernel⟩
theorem ok_l_bag {f : Addr} {fd : FuncData} (F : Fun K "_law_bag" "_law_bag" s_l_bag f fd) (T : Txt K mg CS) : FnOk P w K mg base CX0 1 f fd ps_l_bag (spBag K) := by
  refine F.ok sc_l_bag (fun vs H Q E h => ?_) (fun cdv A outer s H vs Q E hr h => ?_)
  · obtain ⟨_, _, rfl, _⟩ := h
    rfl
  · obtain ⟨a, ns, rfl, hs, hl, k⟩ := h
    refine ⟨_, (pss_one (ps_ret (pe_lst (pa_cons (pe_callTy call_list_of (by rfl) T.n_list (by decide +kernel) (pa_cons (pe_slice sl_list (pv 0) po_none (po_some pe_int)) pa_nil)) (pa_cons pe_int (pa_cons pe_int (pa_cons pe_int (pa_cons pe_int (pa_cons pe_int pa_nil))))))))), ?_⟩
    refine ⟨_, rfl, _, rfl, a, _, rfl, hs, fun p hp => ?_⟩
    refine ⟨p, _, rfl, .inl (.inl (.inl upd_same)), fun c hc => ⟨by show 6 ≤ sizeLine; decide, fun b hb => ?_⟩⟩
    have ncb : c ≠ b := ne_of_none upd_same hb
    have e : cutV (ns.map V.int) none (some 63) = (ns.take 63).map V.int := by
      rw [List.map_take]
      exact cutV_to _ 63
    refine k b _ ⟨fun _ _ z => (by cases z), rfl, c, ns.take 63, 0, 0, 0, 0, 0, rfl, ncb, ?_, upd_same, by omega, by omega, by omega, by omega⟩
    rw [upd_ne ncb, upd_same, e]
def spName : Sp := fun vs H Q _ => ∃ (F : Hp) (b l : Addr) (tk : List Str), vs = [.ref b, .ref l] ∧ Bag F H b ∧ F l = some (.lst (tk.map V.str)) ∧ tk.length ≤ 20 ∧
  ∀ (n : Str) (H' : Hp), isNm n = true → n ∉ tk → Bag (upd F l (.lst ((tk ++ [n]).map V.str))) H' b → Q (.str n) H'
abbrev s_l_name : Stmt := topS 53
abbrev sc_l_nameN : List Str := ["_law_bag_here", "_law_taken", "_law_letters", "_law_word_here", "_law_k", "_law_stem"]
abbrev ps_l_name : List Str := ["_law_bag_here", "_law_taken"]
theorem sc_l_name : FnScope sc_l_nameN ps_l_name (defScope s_l_name) := ⟨rfl, rfl, rfl, by decide +kernel, rfl, by decide +kernel, by decide +kernel⟩
theorem ok_l_name {f : Addr} {fd : FuncData} (F : Fun K "_law_name" "_law_name" s_l_name f fd) (T : Txt K mg CS) (D_l_pick : Df P w K mg base "_law_pick" 1 ps_l_pick spPick) : FnOk P w K mg base CX0 2 f fd ps_l_name spName := by
  refine F.ok sc_l_name (fun vs H Q E h => ?_) (fun cdv A outer s H vs Q E hr h => ?_)
  · obtain ⟨_, _, _, _, rfl, _⟩ := h
    rfl
  · obtain ⟨F0, b, l, tk, rfl, B, hl, len, k⟩ := h
    refine ⟨_, (pss_cons (ps_set (i := 2) sc_l_name.nd rfl (Or.inr rfl) pe_str)
  (Evl.pss_cut (ps_if (pt_cmpR op_eq (pe_d D_l_pick (hr.mono (by decide)) (pa_cons (pv 0) (pa_cons pe_int pa_nil))) pe_int (nomark _))
    (pss_one (ps_set (i := 3) sc_l_name.nd rfl (Or.inl rfl) (pe_ix ix_list (pe_lst (pa_cons pe_str (pa_cons pe_str (pa_cons pe_str (pa_cons pe_str (pa_cons pe_str (pa_cons pe_str (pa_cons pe_str (pa_cons pe_str pa_nil))))))))) (pe_d D_l_pick (hr.mono (by decide)) (pa_cons (pv 0) (pa_cons pe_int pa_nil))) (fun _ _ => rfl))))
    (pss_one (ps_set (i := 3) sc_l_name.nd rfl (Or.inl rfl) (pe_join pe_str (pe_lc (own := [("_law_k", 4)]) (g := gName 4) (tt := tYes) (by rfl) sc_l_name.nd (pi_range1 (by rfl) T.n_range (pa_cons (pe_op op_add pe_int (pe_d D_l_pick (hr.mono (by decide)) (pa_cons (pv 0) (pa_cons pe_int pa_nil)))) pa_nil)) (blkOk_by (own := [("_law_k", 4)]) (N := sc_l_nameN) (sc := defScope s_l_name) (by decide +kernel)) (fun _ _ _ _ _ => pg_name (i := 4) sc_l_name.nd rfl (Or.inl rfl)) (fun _ _ _ _ _ => pts_nil) (fun _ _ _ _ _ => (pe_ix ix_str (pv 2) (pe_d D_l_pick (hr.mono (by decide)) (pa_cons (pv 0) (pa_cons pe_int pa_nil))) (fun _ _ => rfl))))))))
  (pss_cons (ps_set (i := 5) sc_l_name.nd rfl (Or.inl rfl) (pe_slice sl_str (pv 3) po_none (po_some pe_int)))
  (pss_cons (ps_for PassesOwn.never rfl (pi_range1 (by rfl) T.n_range (pa_cons pe_int pa_nil)) (pg_name (i := 4) sc_l_name.nd rfl (Or.inl rfl))
    (pss_cons (ps_if (pt_cmpR op_notIn_seq (pv 3) (pv 1) (by rfl))
      (pss_one ps_break)
      pss_nil)
    (pss_one (ps_set (i := 3) sc_l_name.nd rfl (Or.inl rfl) (pe_op op_add_str (pv 5) (pe_ix ix_str (pv 2) (pv 4) (fun _ _ => rfl)))))))
  (pss_cons (ps_expr (pe_bm PySem.F.plainAttrs_list PySem.F.slot_list_append PySem.F.type_list_append mt_append (pv 1) (pa_cons (pv 3) pa_nil)))
  (pss_one (ps_ret (pv 3)))))))), ?_⟩
    -- the word
    refine ⟨fun σ H' => ∃ (n : Str) (v : Option V), σ = [some (.ref b), some (.ref l), some (.str letters), some (.str n), v, none] ∧ isNm n = true ∧ Bag F0 H' b, ?_, ?_⟩
    · refine ⟨_, rfl, F0, b, 12, rfl, by decide, by decide, B, fun r H1 r0 r1 B1 => ⟨rfl, _, rfl, ifd (fun _ => ?_) fun _ => ?_⟩⟩
      · refine ⟨by show 8 ≤ sizeLine; decide, fun p hp => ?_⟩
        refine ⟨_, rfl, _, b, 8, rfl, by decide, by decide, B1.new _ hp, fun r H2 r0 r1 B2 => ?_⟩
        obtain ⟨v, hv, hm⟩ := at_mem (xs := (["end", "put", "scan", "none", "of", "same", "table", "block"] : List Str).map V.str) r0 r1
        obtain ⟨n, hn, rfl⟩ := List.mem_map.mp hm
        have good : ∀ n ∈ (["end", "put", "scan", "none", "of", "same", "table", "block"] : List Str), isNm n = true := by decide +kernel
        refine ⟨p, _, _, _, rfl, rfl, .inl (.inl (B2.fh _ _ upd_same)), hv, ?_⟩
        exact ⟨n, _, rfl, good n hn, bag_sub (fun a o e => by rw [upd_ne (ne_of_none (B1.fh _ _ e) hp)]; exact e) B2⟩
      · refine ⟨⟨_, rfl⟩, _, rfl, F0, b, 8, rfl, by decide, by decide, B1, fun r H2 r0 r1 B2 => ⟨_, _, rfl, rfl, _, rfl, by omega, by omega, fun D hD => ?_⟩⟩
        have fD : F0 D = none := B2.fh.free hD
        have nDl : D ≠ l := fun q => by rw [q, hl] at fD; cases fD
        have toF : ∀ o, Same F0 (upd F0 D o) := fun o a u e => by rw [upd_ne (ne_of_none e fD)]; exact e
        refine lc_range (lo := 0) (n := (1 + r).toNat) (fun i H' => ∃ cs : List Nat, cs.length = i ∧ (∀ c ∈ cs, 97 ≤ c ∧ c ≤ 122) ∧ Bag (upd F0 D (.lst ((cs.map one).map V.str))) H' b) ⟨[], rfl, fun _ m => (by cases m), B2.new _ hD⟩ ?_ ?_
        · rintro i H3 hi ⟨cs, rfl, hcs, B3⟩
          refine ⟨rfl, _, rfl, _, rfl, _, b, 26, rfl, by decide, by decide, B3, fun q H4 q0 q1 B4 => ?_⟩
          obtain ⟨c, hc, hm⟩ := at_mem (xs := letters.cps.toList) q0 (by rw [letters_list]; exact q1)
          rw [letters_list] at hm
          have hm2 := List.mem_range'_1.mp hm
          refine ⟨letters, _, c, rfl, rfl, by decide +kernel, hc, _, B4.fh _ _ upd_same, ?_, cs ++ [c], by simp, fun z m => ?_, ?_⟩
          · rw [List.length_map, List.length_map]
            exact Nat.lt_of_lt_of_le (show cs.length < 100 by omega) (by decide)
          · rcases List.mem_append.mp m with m | m
            · exact hcs z m
            · rw [List.mem_singleton.mp m]
              omega
          · have z := B4.put (.lst (((cs ++ [c]).map one).map V.str)) upd_same
            rw [upd_upd] at z
            have e : ((cs ++ [c]).map one).map V.str = (cs.map one).map V.str ++ [V.str (one c)] := by
              rw [List.map_append, List.map_append]
              rfl
            rw [e] at z ⊢
            exact z
        · rintro H3 ⟨cs, hl3, hcs, B3⟩
          refine ⟨_, D, cs.map one, rfl, rfl, .inl (.inl (.inl (B3.fh _ _ upd_same))), ?_, ?_⟩
          · have e : ((cs.map one).map (·.length)).sum = cs.length := by
              rw [List.map_map]
              clear hl3 hcs B3
              induction cs with
              | nil => rfl
              | cons c cs ih => rw [List.map_cons, List.sum_cons, ih, List.length_cons]; show 1 + cs.length = cs.length + 1; omega
            rw [e, List.length_map]
            show cs.length + cs.length * 0 ≤ 16777216
            omega
          · rw [join_one]
            exact ⟨ofL cs, _, rfl, isNm_ofL (by omega) (by omega) hcs, bag_sub (toF _) B3⟩
    · rintro σ H1 ⟨n, v, rfl, gn, B1⟩
      obtain ⟨n1, n2, n3⟩ := isNm_inv gn
      refine ⟨_, rfl, _, rfl, n, rfl, Nat.le_trans (isNm_len gn) (by decide), ?_⟩
      have cut : cutS n none (some 7) = ofL (n.cps.toList.take 7) := cutS_to n 7
      rw [cut]
      have hl1 := B1.fh _ _ hl
      refine ⟨26, rfl, by decide, by decide, for_range (lo := 0) (n := 26) (fun i σ H' => ∃ v, σ = [some (.ref b), some (.ref l), some (.str letters), some (.str (wd n (n.cps.toList.take 7) i)), v, some (.str (ofL (n.cps.toList.take 7)))] ∧ H' = H1 ∧ ∀ j, j < i → wd n (n.cps.toList.take 7) j ∈ tk) ⟨_, rfl, rfl, fun j z => absurd z (Nat.not_lt_zero _)⟩ ?_ ?_⟩
      · rintro i σ H' hi ⟨v, rfl, rfl, all⟩
        refine ⟨_, rfl, _, rfl, l, _, rfl, .inl (.inl (.inl hl1)), rfl, flat_strs _, _, rfl, ?_⟩
        rw [inV_str]
        refine ifn (fun new => ?_) fun old => ?_
        · refine ⟨_, rfl, .inl ⟨rfl, _, .inl (.inl hl1)⟩, _, rfl, l, _, _, rfl, rfl, hl1, by rw [List.length_map]; exact Nat.lt_of_le_of_lt len (by decide), _, rfl, ?_⟩
          refine k _ _ (wd_nm gn i (by omega)) new ?_
          have z := B1.put (.lst ((tk ++ [wd n (n.cps.toList.take 7) i]).map V.str)) hl
          rw [show (tk ++ [wd n (n.cps.toList.take 7) i]).map V.str = tk.map V.str ++ [V.str (wd n (n.cps.toList.take 7) i)] from by rw [List.map_append]; rfl] at z ⊢
          exact z
        · obtain ⟨c, hc, hm⟩ := at_mem (xs := letters.cps.toList) (r := 0 + (i : Int)) (by omega) (by rw [letters_list, List.length_range']; omega)
          have ec : c = 97 + i := by
            rw [letters_list, Int.zero_add] at hc
            have z := atI_nat (xs := List.range' 97 26) (j := i) (v := 97 + i) (by rw [List.getElem?_range' (by omega)]; simp)
            rw [hc] at z
            exact Option.some.inj z
          refine ⟨_, rfl, _, rfl, _, rfl, letters, _, c, rfl, rfl, by decide +kernel, hc, _, _, rfl, rfl, ?_, some (.int (0 + (i : Nat))), ?_, rfl, fun j hj => ?_⟩
          · have l7 : (ofL (n.cps.toList.take 7)).length ≤ 7 := by
              simp [ofL, Str.length]
              omega
            exact Nat.le_trans (Nat.add_le_add l7 (Nat.le_refl 1)) (show 8 ≤ sizeLine by decide)
          · have e : wd n (n.cps.toList.take 7) (i + 1) = ofL (n.cps.toList.take 7 ++ [97 + i]) := by
              unfold wd
              rw [if_neg (Nat.succ_ne_zero i), show 96 + (i + 1) = 97 + i by omega]
            rw [add_one, ec, e]
            rfl
          · rcases Nat.lt_succ_iff_lt_or_eq.mp hj with z | rfl
            · exact all j z
            · exact old
      · rintro σ H' ⟨v, rfl, rfl, all⟩
        exact absurd (wd_few (n := 26) all) (by omega)
end
end Fm

/-! ## K08F -/
set_option Elab.async false
set_option maxRecDepth 100000
set_option maxHeartbeats 4000000
namespace Fm
open PySem L2
theorem upd_none {F : Hp} {a b : Addr} {o : HO} (h : F a = none) (n : a ≠ b) : upd F b o a = none := by rw [upd_ne n]; exact h
theorem upd_comm {F : Hp} {a b : Addr} {x y : HO} (n : a ≠ b) : upd (upd F a x) b y = upd (upd F b y) a x := by
  funext c
  unfold upd
  by_cases h1 : c = b
  · subst h1
    rw [if_pos rfl, if_neg (Ne.symm n), if_pos rfl]
  · rw [if_neg h1]
    by_cases h2 : c = a
    · rw [if_pos h2, if_pos h2]
    · rw [if_neg h2, if_neg h2, if_neg h1]
theorem nodup_snoc {α : Type} {l : List α} {x : α} (h : l.Nodup) (n : x ∉ l) : (l ++ [x]).Nodup := by
  refine List.pairwise_append.mpr ⟨h, .cons (fun _ m => (by cases m)) .nil, fun a ha b hb e => ?_⟩
  rw [List.mem_singleton.mp hb] at e
  exact n (by rw [← e]; exact ha)
/-- a row of good names, none twice -/
structure Nms (fs : List Str) : Prop where
  lo : 1 ≤ fs.length
  hi : fs.length ≤ 4
  nm : ∀ f ∈ fs, isNm f = true
  nd : fs.Nodup
abbrev Tab := Str × List Str
structure TOk (t : Tab) : Prop where
  nm : isNm t.1 = true
  fs : Nms t.2
def tabD (b : Bool) (t : Tab) : PyData := .tuple [.str t.1, if b = true then .list (t.2.map PyData.str) else .tuple (t.2.map PyData.str)]
structure TsOk (ts : List Tab) : Prop where
  lo : 1 ≤ ts.length
  hi : ts.length ≤ 5
  ok : ∀ t ∈ ts, TOk t
  nd : (ts.map (·.1)).Nodup
/-- a list of tables stands at p -/
def TbAt (F : Hp) (p : Addr) (ts : List Tab) : Prop := ∃ xs, F p = some (.lst xs) ∧ TpAll F xs (ts.map (tabD false))
theorem TbAt.same {F F' : Hp} {p : Addr} {ts : List Tab} (h : TbAt F p ts) (s : Same F F') : TbAt F' p ts := by
  obtain ⟨xs, h1, h2⟩ := h
  exact ⟨xs, s _ _ h1, h2.same s⟩
section
variable {P : Program} {w : World} {K : PySem.W.Frag} {mg : Str → Option Value} {base : Heap} {CS : Addr}
def spTables : Sp := fun vs H Q _ => ∃ (F : Hp) (b : Addr), vs = [.ref b] ∧ Bag F H b ∧ ∀ (p : Addr) (F' H' : Hp) (ts : List Tab), Bag F' H' b → Same F F' → TsOk ts → TbAt F' p ts → Q (.ref p) H'
abbrev s_l_tables : Stmt := topS 54
abbrev sc_l_tablesN : List Str := ["_law_bag_here", "_law_taken", "_law_tables_here", "_law_k", "_law_name_here", "_law_fields", "_law_j"]
abbrev ps_l_tables : List Str := ["_law_bag_here"]
theorem sc_l_tables : FnScope sc_l_tablesN ps_l_tables (defScope s_l_tables) := ⟨rfl, rfl, rfl, by decide +kernel, rfl, by decide +kernel, by decide +kernel⟩
theorem ok_l_tables {f : Addr} {fd : FuncData} (F : Fun K "_law_tables" "_law_tables" s_l_tables f fd) (T : Txt K mg CS) (D_l_pick : Df P w K mg base "_law_pick" 1 ps_l_pick spPick) (D_l_name : Df P w K mg base "_law_name" 2 ps_l_name spName) :
    FnOk P w K mg base CX0 3 f fd ps_l_tables spTables := by
  refine F.ok sc_l_tables (fun vs H Q E h => ?_) (fun cdv A outer s H vs Q E hr h => ?_)
  · obtain ⟨_, _, rfl, _⟩ := h
    rfl
  · obtain ⟨F0, b, rfl, B, k⟩ := h
    refine ⟨_, (pss_cons (ps_set (i := 1) sc_l_tables.nd rfl (Or.inl rfl) (pe_lst pa_nil))
  (pss_cons (ps_set (i := 2) sc_l_tables.nd rfl (Or.inl rfl) (pe_lst pa_nil))
  (pss_cons (ps_for PassesOwn.never rfl (pi_range1 (by rfl) T.n_range (pa_cons (pe_ix ix_list (pe_lst (pa_cons pe_int (pa_cons pe_int (pa_cons pe_int (pa_cons pe_int (pa_cons pe_int pa_nil)))))) (pe_d D_l_pick (hr.mono (by decide)) (pa_cons (pv 0) (pa_cons pe_int pa_nil))) (fun _ _ => rfl)) pa_nil)) (pg_name (i := 3) sc_l_tables.nd rfl (Or.inl rfl))
    (pss_cons (ps_set (i := 4) sc_l_tables.nd rfl (Or.inl rfl) (pe_d D_l_name (hr.mono (by decide)) (pa_cons (pv 0) (pa_cons (pv 1) pa_nil))))
    (pss_cons (ps_set (i := 5) sc_l_tables.nd rfl (Or.inl rfl) (pe_lst pa_nil))
    (pss_cons (ps_for PassesOwn.never rfl (pi_range1 (by rfl) T.n_range (pa_cons (pe_op op_add pe_int (pe_d D_l_pick (hr.mono (by decide)) (pa_cons (pv 0) (pa_cons pe_int pa_nil)))) pa_nil)) (pg_name (i := 6) sc_l_tables.nd rfl (Or.inl rfl))
      (pss_one (ps_expr (pe_d D_l_name (hr.mono (by decide)) (pa_cons (pv 0) (pa_cons (pv 5) pa_nil))))))
    (pss_one (ps_expr (pe_bm PySem.F.plainAttrs_list PySem.F.slot_list_append PySem.F.type_list_append mt_append (pv 2) (pa_cons (pe_tup (pa_cons (pv 4) (pa_cons (pe_callTy call_tuple_of (by rfl) T.n_tuple (by decide +kernel) (pa_cons (pv 5) pa_nil)) pa_nil))) pa_nil))))))))
  (pss_one (ps_ret (pv 2)))))), ?_⟩
    refine ⟨Nat.zero_le _, fun t ht => ⟨Nat.zero_le _, fun p hp => ?_⟩⟩
    have ntp : t ≠ p := ne_of_none upd_same hp
    have fp : F0 p = none := B.fh.free (by rw [upd_ne (Ne.symm ntp)] at hp; exact hp)
    have ft : F0 t = none := B.fh.free ht
    have B2 := (B.new (.lst []) ht).new (.lst []) hp
    refine ⟨(by show 5 ≤ sizeLine; decide), fun m hm => ⟨_, rfl, _, b, 5, rfl, by decide, by decide, B2.new _ hm, fun r H1 r0 r1 B3 => ?_⟩⟩
    obtain ⟨v, hv, hvm⟩ := at_mem (xs := ([2, 1, 2, 3, 5] : List Int).map V.int) r0 r1
    obtain ⟨z, hz, rfl⟩ := List.mem_map.mp hvm
    have z15 : 1 ≤ z ∧ z ≤ 5 := by
      have all : ∀ z ∈ ([2, 1, 2, 3, 5] : List Int), 1 ≤ z ∧ z ≤ 5 := by decide
      exact all z hz
    have B4 := bag_sub (F := upd (upd F0 t (.lst [])) p (.lst [])) (fun a o e => by rw [upd_ne (ne_of_none (B2.fh _ _ e) hm)]; exact e) B3
    refine ⟨m, _, _, _, rfl, rfl, .inl (.inl (B3.fh _ _ upd_same)), hv, z, rfl, by omega, by omega, ?_⟩
    refine for_range (lo := 0) (n := z.toNat) (fun i σ H' => ∃ (G : Hp) (ts : List Tab) (xs : List V) (v3 v4 v5 v6 : Option V), σ = [some (.ref b), some (.ref t), some (.ref p), v3, v4, v5, v6] ∧ Same F0 G ∧ G t = none ∧ G p = none ∧
      Bag (upd (upd G t (.lst ((ts.map (·.1)).map V.str))) p (.lst xs)) H' b ∧ TpAll G xs (ts.map (tabD false)) ∧ ts.length = i ∧ (∀ u ∈ ts, TOk u) ∧ (ts.map (·.1)).Nodup) ?_ ?_ ?_
    · exact ⟨F0, [], [], _, _, _, _, rfl, Same.refl _, ft, fp, B4, .nil, rfl, fun _ m => (by cases m), .nil⟩
    · rintro i σ H2 hi ⟨G, ts, xs, v3, v4, v5, v6, rfl, sG, gt, gp, B5, dx, len, ok, nd⟩
      have lx : xs.length = i := by rw [dx.len, List.length_map]; exact len
      -- the table's name
      refine ⟨_, rfl, _, rfl, _, b, t, ts.map (·.1), rfl, B5, by rw [upd_ne ntp, upd_same], by rw [List.length_map]; omega, fun n H3 gn nn B6 => ?_⟩
      rw [upd_comm (Ne.symm ntp), upd_upd] at B6
      -- its fields
      refine ⟨Nat.zero_le _, fun q hq => ?_⟩
      have B7 := B6.new (.lst []) hq
      have q0 := B6.fh.free hq
      have nqt : q ≠ t := fun e => by rw [e, upd_ne ntp, upd_same] at q0; cases q0
      have nqp : q ≠ p := fun e => by rw [e, upd_same] at q0; cases q0
      have gq : G q = none := by rw [upd_ne nqp, upd_ne nqt] at q0; exact q0
      refine ⟨_, rfl, _, b, 4, rfl, by decide, by decide, B7, fun r H4 r0 r1 B8 => ⟨_, _, rfl, rfl, _, rfl, by omega, by omega, ?_⟩⟩
      refine for_range (lo := 0) (n := (1 + r).toNat) (fun j σ H' => ∃ (fs : List Str) (v6 : Option V), σ = [some (.ref b), some (.ref t), some (.ref p), some (.int (0 + (i : Nat))), some (.str n), some (.ref q), v6] ∧ fs.length = j ∧ (∀ f ∈ fs, isNm f = true) ∧ fs.Nodup ∧
        Bag (upd (upd (upd G t (.lst ((ts.map (·.1) ++ [n]).map V.str))) p (.lst xs)) q (.lst (fs.map V.str))) H' b) ?_ ?_ ?_
      · exact ⟨[], _, rfl, rfl, fun _ m => (by cases m), .nil, B8⟩
      · rintro j σ H5 hj ⟨fs, v6, rfl, lf, gf, nf, B9⟩
        refine ⟨_, rfl, _, rfl, _, b, q, fs, rfl, B9, upd_same, by omega, fun f H6 gf2 nf2 B10 => ?_⟩
        rw [upd_upd] at B10
        refine ⟨fs ++ [f], _, rfl, by rw [List.length_append, lf]; rfl, fun g m => ?_, ?_, B10⟩
        · rcases List.mem_append.mp m with m | m
          · exact gf g m
          · rw [List.mem_singleton.mp m]
            exact gf2
        · exact nodup_snoc nf nf2
      · rintro σ H5 ⟨fs, v6, rfl, lf, gf, nf, B9⟩
        -- the table
        have hq5 := B9.fh _ _ upd_same
        have hp5 : H5 p = some (.lst xs) := B9.fh _ _ (by rw [upd_ne (Ne.symm nqp), upd_same])
        refine ⟨_, rfl, .inl ⟨rfl, _, .inl (.inl hp5)⟩, _, rfl, _, rfl, q, _, rfl, .inl ⟨.inl (.inl hq5), fun u hu => ⟨(by show 2 ≤ sizeLine; decide), fun e he => ?_⟩⟩⟩
        have B11 := (B9.new (.tup (fs.map V.str)) hu).new (.tup [.str n, .ref u]) he
        have u0 := B9.fh.free hu
        have nup : u ≠ p := fun z => by rw [z] at u0; rw [upd_ne (Ne.symm nqp), upd_same] at u0; cases u0
        have nut : u ≠ t := fun z => by rw [z] at u0; rw [upd_ne (Ne.symm nqt), upd_ne ntp, upd_same] at u0; cases u0
        have nuq : u ≠ q := fun z => by rw [z] at u0; rw [upd_same] at u0; cases u0
        have gu : G u = none := by rw [upd_ne nuq, upd_ne nup, upd_ne nut] at u0; exact u0
        have hu2 : (upd H5 u (.tup (fs.map V.str))) u = some (.tup (fs.map V.str)) := upd_same
        have neu : e ≠ u := fun z => by rw [z, hu2] at he; cases he
        have he5 : H5 e = none := by rw [upd_ne neu] at he; exact he
        have e0 := B9.fh.free he5
        have nep : e ≠ p := fun z => by rw [z] at e0; rw [upd_ne (Ne.symm nqp), upd_same] at e0; cases e0
        have net : e ≠ t := fun z => by rw [z] at e0; rw [upd_ne (Ne.symm nqt), upd_ne ntp, upd_same] at e0; cases e0
        have neq : e ≠ q := fun z => by rw [z] at e0; rw [upd_same] at e0; cases e0
        have ge : G e = none := by rw [upd_ne neq, upd_ne nep, upd_ne net] at e0; exact e0
        refine ⟨p, _, _, rfl, rfl, by rw [upd_ne (Ne.symm nep), upd_ne (Ne.symm nup)]; exact hp5, Nat.lt_of_le_of_lt (show xs.length ≤ 100 by omega) (by decide), ?_⟩
        have B12 := B11.put (.lst (xs ++ [.ref e])) (o := .lst xs) (l := p) (by rw [upd_ne (Ne.symm nep), upd_ne (Ne.symm nup), upd_ne (Ne.symm nqp), upd_same])
        rw [upd_comm nep, upd_comm nup, upd_comm nqp, upd_upd, upd_comm (a := p) (b := q) (Ne.symm nqp), upd_comm (a := p) (b := u) (Ne.symm nup), upd_comm (a := p) (b := e) (Ne.symm nep),
          upd_comm (a := t) (b := q) (Ne.symm nqt), upd_comm (a := t) (b := u) (Ne.symm nut), upd_comm (a := t) (b := e) (Ne.symm net)] at B12
        have sG2 : Same G (upd (upd (upd G q (.lst (fs.map V.str))) u (.tup (fs.map V.str))) e (.tup [.str n, .ref u])) := fun a o z => by
          rw [upd_ne (ne_of_none z ge), upd_ne (ne_of_none z gu), upd_ne (ne_of_none z gq)]
          exact z
        refine ⟨_, ts ++ [(n, fs)], xs ++ [.ref e], _, _, _, _, rfl, sG.trans sG2, upd_none (upd_none (upd_none gt (Ne.symm nqt)) (Ne.symm nut)) (Ne.symm net), upd_none (upd_none (upd_none gp (Ne.symm nqp)) (Ne.symm nup)) (Ne.symm nep), ?_, ?_, ?_, ?_, ?_⟩
        · rw [List.map_append]
          exact B12
        · rw [List.map_append]
          exact (dx.same sG2).snoc (.tup upd_same (.cons (.str n) (.cons (.tup (by rw [upd_ne (Ne.symm neu), upd_same]) (TpAll.strs fs)) .nil)))
        · rw [List.length_append, len]
          rfl
        · intro w hw
          rcases List.mem_append.mp hw with hw | hw
          · exact ok w hw
          · rw [List.mem_singleton.mp hw]
            exact ⟨gn, (show 1 ≤ fs.length by omega), (show fs.length ≤ 4 by omega), gf, nf⟩
        · rw [List.map_append]
          exact nodup_snoc nd nn
    · rintro σ H2 ⟨G, ts, xs, v3, v4, v5, v6, rfl, sG, gt, gp, B5, dx, len, ok, nd⟩
      refine ⟨_, rfl, ?_⟩
      refine k p _ H2 ts B5 (fun a o e => ?_) ⟨by omega, by omega, ok, nd⟩ ⟨xs, upd_same, dx.same (fun a o e => ?_)⟩
      · rw [upd_ne (ne_of_none e fp), upd_ne (ne_of_none e ft)]
        exact sG a o e
      · rw [upd_ne (ne_of_none e gp), upd_ne (ne_of_none e gt)]
        exact e
end
end Fm

/-! ## K08H -/
set_option Elab.async false
set_option maxRecDepth 100000
set_option maxHeartbeats 4000000
namespace Fm
open PySem L2
theorem ifF {c : Bool} {A B : Prop} (hc : c = false) (h : B) : if c = true then A else B := by
  rw [hc]
  exact iteF h
theorem ifT {c : Bool} {A B : Prop} (hc : c = true) (h : A) : if c = true then A else B := by
  rw [hc]
  exact iteT h
theorem ix_sq {K : PySem.W.Frag} {H : Hp} {a : Addr} {xs : List V} {i : Int} {v : V} {Q : VK} (h : Sq K H a xs) (hv : atI xs i = some v) (q : Q v H) : rIx K (.ref a) (.int i) H Q := by
  rcases h with h | h
  · exact .inl ⟨a, xs, i, v, rfl, rfl, h, hv, q⟩
  · exact .inr (.inl ⟨a, xs, i, v, rfl, rfl, h, hv, q⟩)
section
variable {P : Program} {w : World} {K : PySem.W.Frag} {mg : Str → Option Value} {base : Heap} {CS CB : Addr}
/-- the keys and values of the two dicts -/
def kvsD (l : Addr) (b : Bool) : List (Key × V) := if b = true then [(Sum.inr "a", .ref l)] else []
theorem dl_kvs {H : Hp} {a : Addr} {b : Bool} (h : Dl H a b) : ∃ l, H a = some (.dK (kvsD l b)) ∧ (b = true → H l = some (.lst [.int 1])) := by
  cases b with
  | true =>
    obtain ⟨l, h1, h2⟩ := (show ∃ l, H a = some (.dK [(Sum.inr "a", .ref l)]) ∧ H l = some (.lst [.int 1]) from h)
    exact ⟨l, h1, fun _ => h2⟩
  | false => exact ⟨0, h, fun z => nomatch z⟩
/-- a new tree like the one that is given -/
def spCopied (n : Nat) : Sp := fun vs H Q _ => ∃ (F : Hp) (v : V) (d : PyData), vs = [v] ∧ Same F H ∧ Tp F v d ∧ dep d < n ∧ siz d ≤ 100000 ∧ ∀ v' F' H', Grow F H F' H' → Tp F' v' d → Q v' H'
abbrev s_l_copied : Stmt := topS 75
abbrev sc_l_copiedN : List Str := ["_law_thing", "_law_part", "_law_found", "_law_key"]
abbrev ps_l_copied : List Str := ["_law_thing"]
theorem sc_l_copied : FnScope sc_l_copiedN ps_l_copied (defScope s_l_copied) := ⟨rfl, rfl, rfl, by decide +kernel, rfl, by decide +kernel, by decide +kernel⟩
theorem ok_l_copied {f : Addr} {fd : FuncData} (F : Fun K "_law_copied" "_law_copied" s_l_copied f fd) (T : Txt K mg CS) (hm : mg "_law_copied" = some (.ref f)) (hb : Binds K fd ps_l_copied []) : ∀ n, FnOk P w K mg base CX0 n f fd ps_l_copied (spCopied n)
  | 0 => fn_no fun vs H Q E h => by
    obtain ⟨_, _, d, _, _, _, hd, _⟩ := h
    exact absurd hd (Nat.not_lt_zero _)
  | n + 1 => by
    have D_l_copied : Df P w K mg base "_law_copied" n ps_l_copied (spCopied n) := ⟨f, fd, ok_l_copied F T hm hb n, hm, F.kp, hb⟩
    refine F.ok sc_l_copied (fun vs H Q E h => ?_) (fun cdv A outer s H vs Q E hr h => ?_)
    · obtain ⟨_, _, _, rfl, _⟩ := h
      rfl
    · obtain ⟨F0, v, d, rfl, sF, hv, hd, hz, k⟩ := h
      refine ⟨_, (pss_cons (ps_if (pt_val (pe_callB call_isi (by rfl) T.n_isinstance (by decide +kernel) (pa_cons (pv 0) (pa_cons (pe_bltn (v := .ty "tuple") (by rfl) T.n_tuple (by decide +kernel) rfl) pa_nil))))
    (pss_one (ps_ret (pe_callTy call_tuple_of (by rfl) T.n_tuple (by decide +kernel) (pa_cons (pe_lc (own := [("_law_part", 1)]) (g := gName 1) (tt := tYes) (by rfl) sc_l_copied.nd (pi_any (pv 0)) (blkOk_by (own := [("_law_part", 1)]) (N := sc_l_copiedN) (sc := defScope s_l_copied) (by decide +kernel)) (fun _ _ _ _ _ => pg_name (i := 1) sc_l_copied.nd rfl (Or.inl rfl)) (fun _ _ _ _ _ => pts_nil) (fun _ _ _ _ _ => (pe_d D_l_copied hr (pa_cons (pv 1) pa_nil)))) pa_nil))))
    pss_nil)
  (pss_cons (ps_if (pt_val (pe_callB call_isi (by rfl) T.n_isinstance (by decide +kernel) (pa_cons (pv 0) (pa_cons (pe_bltn (v := .ty "list") (by rfl) T.n_list (by decide +kernel) rfl) pa_nil))))
    (pss_one (ps_ret (pe_lc (own := [("_law_part", 1)]) (g := gName 1) (tt := tYes) (by rfl) sc_l_copied.nd (pi_any (pv 0)) (blkOk_by (own := [("_law_part", 1)]) (N := sc_l_copiedN) (sc := defScope s_l_copied) (by decide +kernel)) (fun _ _ _ _ _ => pg_name (i := 1) sc_l_copied.nd rfl (Or.inl rfl)) (fun _ _ _ _ _ => pts_nil) (fun _ _ _ _ _ => (pe_d D_l_copied hr (pa_cons (pv 1) pa_nil))))))
    pss_nil)
  (pss_cons (ps_if (pt_val (pe_callB call_isi (by rfl) T.n_isinstance (by decide +kernel) (pa_cons (pv 0) (pa_cons (pe_bltn (v := .ty "dict") (by rfl) T.n_dict (by decide +kernel) rfl) pa_nil))))
    (pss_cons (ps_set (i := 2) sc_l_copied.nd rfl (Or.inl rfl) pe_dnewK)
    (pss_cons (ps_lock (ps_for PassesOwn.never rfl (pi_keys (pv 0)) (pg_name (i := 3) sc_l_copied.nd rfl (Or.inl rfl))
      (pss_one (ps_asg (pe_d D_l_copied hr (pa_cons (pe_dget (Nat.lt_of_le_of_lt (Nat.add_le_add_left (by decide) _) hr.units) (pv 0) (pv 3) (fun _ _ => rfl)) pa_nil)) (pg_sub (pv 2) (pv 3) (set_dict (Nat.lt_of_le_of_lt (Nat.add_le_add_left (by decide) _) hr.units)))))))
    (pss_one (ps_ret (pv 2)))))
    pss_nil)
  (pss_one (ps_ret (pv 0)))))), ?_⟩
      have kt : ∀ {n : String}, n ∈ ["str", "int", "bool", "list", "tuple", "dict"] → PySem.W.kitOne K (.type (tyD d)) (.type n) = some (isD n d) := fun m => kit_ty (kit_d m)
      have ty := (hv.same sF).ty (K := K)
      refine ⟨_, rfl, _, _, _, _, _, rfl, .ty _, ty, kt (by simp), _, rfl, ?_⟩
      cases d with
      | none => exact iteF ⟨_, rfl, _, _, _, _, _, rfl, .ty _, ty, kt (by simp), _, rfl, iteF ⟨_, rfl, _, _, _, _, _, rfl, .ty _, ty, kt (by simp), _, rfl, iteF ⟨_, rfl, k _ _ _ (Grow.refl sF) hv⟩⟩⟩
      | bool _ => exact iteF ⟨_, rfl, _, _, _, _, _, rfl, .ty _, ty, kt (by simp), _, rfl, iteF ⟨_, rfl, _, _, _, _, _, rfl, .ty _, ty, kt (by simp), _, rfl, iteF ⟨_, rfl, k _ _ _ (Grow.refl sF) hv⟩⟩⟩
      | int _ => exact iteF ⟨_, rfl, _, _, _, _, _, rfl, .ty _, ty, kt (by simp), _, rfl, iteF ⟨_, rfl, _, _, _, _, _, rfl, .ty _, ty, kt (by simp), _, rfl, iteF ⟨_, rfl, k _ _ _ (Grow.refl sF) hv⟩⟩⟩
      | str _ => exact iteF ⟨_, rfl, _, _, _, _, _, rfl, .ty _, ty, kt (by simp), _, rfl, iteF ⟨_, rfl, _, _, _, _, _, rfl, .ty _, ty, kt (by simp), _, rfl, iteF ⟨_, rfl, k _ _ _ (Grow.refl sF) hv⟩⟩⟩
      | tuple ds =>
        obtain ⟨a, xs, rfl, hx, ha⟩ := hv.tuple
        have hd2 : 1 + depL ds < n + 1 := hd
        have hz2 : 1 + sizL ds ≤ 100000 := hz
        have ls := siz_len ds
        refine iteT ⟨_, rfl, a, xs, rfl, any_of (K := K) (rw_sq (.inr hx)) sF fun J G gm wk => (fun D hD => ?_)⟩
        refine lc_it wk (fun i H' => ∃ F' ys, Acc F0 H D F' H' ys ∧ TpAll F' ys (ds.take i)) ⟨F0, [], Acc.start sF hD, .nil⟩ (fun i H' _ z => by obtain ⟨F', ys, ac, _⟩ := z; exact gm H' (ac.g.ff.trans ac.g.fh)) ?_ ?_
        · rintro i x H2 H3 hi ⟨F2, ys, ac, ta⟩ ⟨rfl, hxi⟩
          obtain ⟨c, hc, hcv⟩ := ha.at hxi
          have mc := List.mem_of_getElem? hc
          have y1 := dep_mem mc
          have y2 := siz_mem mc
          refine ⟨rfl, _, rfl, F2, x, c, rfl, ac.g.fh, hcv.same ac.g.ff, by omega, by omega, fun y F3 H4 g ty => ?_⟩
          have ac2 := ac.then g
          refine ⟨ys, ac2.at_, ?_, F3, ys ++ [y], ac2.add _, ?_⟩
          · rw [ta.len, List.length_take]
            exact Nat.lt_of_le_of_lt (show min i ds.length ≤ 100000 by omega) (by decide)
          · rw [List.take_add_one, hc]
            exact (ta.same g.ff).snoc ty
        · rintro H2 ⟨F2, ys, ac, ta⟩
          rw [ha.len, List.take_length] at ta
          refine ⟨D, ys, rfl, .inl ⟨.inl (.inl ac.at_), fun l hl => ?_⟩⟩
          exact k _ _ _ (ac.g.trans (Grow.new ac.g.fh _ hl)) (.tup upd_same (ta.same (same_new _ (ac.g.fh.free hl))))
      | list ds =>
        obtain ⟨a, xs, rfl, hx, ha⟩ := hv.list
        have hd2 : 1 + depL ds < n + 1 := hd
        have hz2 : 1 + sizL ds ≤ 100000 := hz
        have ls := siz_len ds
        refine iteF ⟨_, rfl, _, _, _, _, _, rfl, .ty _, ty, kt (by simp), _, rfl, iteT ⟨_, rfl, a, xs, rfl, any_of (K := K) (rw_sq (.inl hx)) sF fun J G gm wk => (fun D hD => ?_)⟩⟩
        refine lc_it wk (fun i H' => ∃ F' ys, Acc F0 H D F' H' ys ∧ TpAll F' ys (ds.take i)) ⟨F0, [], Acc.start sF hD, .nil⟩ (fun i H' _ z => by obtain ⟨F', ys, ac, _⟩ := z; exact gm H' (ac.g.ff.trans ac.g.fh)) ?_ ?_
        · rintro i x H2 H3 hi ⟨F2, ys, ac, ta⟩ ⟨rfl, hxi⟩
          obtain ⟨c, hc, hcv⟩ := ha.at hxi
          have mc := List.mem_of_getElem? hc
          have y1 := dep_mem mc
          have y2 := siz_mem mc
          refine ⟨rfl, _, rfl, F2, x, c, rfl, ac.g.fh, hcv.same ac.g.ff, by omega, by omega, fun y F3 H4 g ty => ?_⟩
          have ac2 := ac.then g
          refine ⟨ys, ac2.at_, ?_, F3, ys ++ [y], ac2.add _, ?_⟩
          · rw [ta.len, List.length_take]
            exact Nat.lt_of_le_of_lt (show min i ds.length ≤ 100000 by omega) (by decide)
          · rw [List.take_add_one, hc]
            exact (ta.same g.ff).snoc ty
        · rintro H2 ⟨F2, ys, ac, ta⟩
          rw [ha.len, List.take_length] at ta
          exact k _ _ _ ac.keep (.lst upd_same (ta.same (same_new _ ac.no)))
      | dict kvs =>
        cases hv with
        | @dct a b hb =>
        obtain ⟨l, ha, hl⟩ := dl_kvs hb
        have ty2 : TyX K H (.ref a) (.type "dict") := .base (.dK (sF _ _ ha))
        refine iteF ⟨_, rfl, _, _, _, _, _, rfl, .ty _, ty, kt (by simp), _, rfl, iteF ⟨_, rfl, _, _, _, _, _, rfl, .ty _, ty, kt (by simp), _, rfl, iteT ?_⟩⟩
        intro q hq
        have nqa : q ≠ a := Ne.symm (ne_of_none (sF _ _ ha) hq)
        have Fq := sF.free hq
        have hqa : (upd H q (.dK [])) a = some (.dK (kvsD l b)) := by rw [upd_ne (Ne.symm nqa)]; exact sF _ _ ha
        refine ⟨a, _, hqa, trivial, fun od => ?_⟩
        have hL : (upd (upd H q (.dK [])) a (.frz od (.dK (kvsD l b)))) a = some (.frz od (.dK (kvsD l b))) := upd_same
        have hLq : (upd (upd H q (.dK [])) a (.frz od (.dK (kvsD l b)))) q = some (.dK []) := by rw [upd_ne nqa, upd_same]
        have toL : ∀ c o, c ≠ a → H c = some o → (upd (upd H q (.dK [])) a (.frz od (.dK (kvsD l b)))) c = some o := fun c o n e => by
          rw [upd_ne n, upd_ne (ne_of_none e hq)]
          exact e
        have s1 : Same (cut F0 a) (upd (upd H q (.dK [])) a (.frz od (.dK (kvsD l b)))) := fun c o e => by
          have n : c ≠ a := ne_of_none e cut_at
          rw [cut_ne n] at e
          exact toL c o n (sF _ _ e)
        generalize upd (upd H q (.dK [])) a (.frz od (.dK (kvsD l b))) = HL at *
        have two : ∀ {i : Nat} {kk : Key} {v0 : V}, (kvsD l b)[i]? = some (kk, v0) → b = true ∧ i = 0 ∧ kk = (Sum.inr (("a" : Str)) : Key) ∧ v0 = .ref l := fun {i kk v0} e => by
          cases b with
          | false => cases e
          | true =>
            cases i with
            | zero =>
              cases e
              exact ⟨rfl, rfl, rfl, rfl⟩
            | succ i => cases e
        refine ⟨_, rfl, a, od, rfl, .inl ⟨_, hL, ?_⟩⟩
        refine for_it walk_keys (fun i σ H' => ∃ (v3 : Option V) (F2 : Hp) (y : Addr), σ = [some (.ref a), none, some (.ref q), v3] ∧ F2 q = none ∧ H' q = some (.dK ((kvsD y b).take i)) ∧ Same (cut F0 a) F2 ∧ F2 a = none ∧ H' a = some (.frz od (.dK (kvsD l b))) ∧ Same F2 H' ∧
            (∀ c o, cut F0 a c = none → HL c = some o → c ≠ q → F2 c = none ∧ H' c = some o) ∧ (1 ≤ i → F2 y = some (.lst [.int 1])))
          ⟨_, cut F0 a, 0, rfl, by rw [cut_ne nqa]; exact Fq, hLq, Same.refl _, cut_at, hL, s1, fun c o e1 e2 _ => ⟨e1, e2⟩, fun z => absurd z (by omega)⟩ (fun i σ H' _ z => by obtain ⟨_, _, _, _, _, _, _, _, z, _⟩ := z; exact z) ?_ ?_
        · rintro i x σ H2 H3 hi ⟨v3, F2, y, rfl, f2q, h2q, s12, f2a, h2a, s2, keep, ly⟩ ⟨rfl, kk, v0, hk, rfl⟩
          obtain ⟨rfl, rfl, rfl, rfl⟩ := two hk
          have lna : l ≠ a := fun z => by
            have e := hl rfl
            rw [z, ha] at e
            cases e
          have dp1 : dep (PyData.list [.int 1]) < n := by
            have z : dep (dictD true) < n + 1 := hd
            show 1 + max 0 0 < n
            have y : dep (dictD true) = 2 := rfl
            omega
          have tl : Tp F2 (.ref l) (.list [.int 1]) := .lst (s12 _ _ (by rw [cut_ne lna]; exact hl rfl)) (.cons (.int 1) .nil)
          refine ⟨_, rfl, _, rfl, a, _, rfl, .inl ⟨kvsD l true, Sum.inr "a", .inr ⟨od, h2a⟩, rfl, rfl⟩, F2, .ref l, _, rfl, s2, tl, dp1, by decide, fun v' F3 H4 g ht => ?_⟩
          obtain ⟨y2, xs2, rfl, hy2, ta2⟩ := ht.list
          have ex2 : xs2 = [.int 1] := by
            cases ta2 with
            | cons h1 h2 =>
              cases h2
              rw [h1.intI]
          rw [ex2] at hy2
          obtain ⟨f3q, h4q⟩ := g.hh q _ f2q h2q
          obtain ⟨f3a, h4a⟩ := g.hh a _ f2a h2a
          refine ⟨_, rfl, _, rfl, q, _, rfl, .inl ⟨_, Sum.inr "a", h4q, rfl, (by show 0 < sizeLine; decide), rfl⟩, ?_⟩
          refine ⟨_, F3, y2, rfl, f3q, by rw [upd_same]; rfl, s12.trans g.ff, f3a, by rw [upd_ne (Ne.symm nqa)]; exact h4a, same_put g.fh _ f3q, fun c o e1 e2 n => ?_, fun _ => hy2⟩
          obtain ⟨z1, z2⟩ := keep c o e1 e2 n
          obtain ⟨z3, z4⟩ := g.hh c o z1 z2
          exact ⟨z3, by rw [upd_ne n]; exact z4⟩
        · rintro σ H2 ⟨v3, F2, y, rfl, f2q, h2q, s12, f2a, h2a, s2, keep, ly⟩
          have hq2 : H2 q = some (.dK (kvsD y b)) := by
            rw [h2q]
            cases b <;> rfl
          refine ⟨h2a, _, rfl, ?_⟩
          have hyq : b = true → F2 y = some (.lst [.int 1]) := fun z => ly (by rw [z]; exact Nat.le_refl _)
          have fq2 : (upd F2 a (.dK (kvsD l b))) q = none := by rw [upd_ne nqa]; exact f2q
          refine k (.ref q) (upd (upd F2 a (.dK (kvsD l b))) q (.dK (kvsD y b))) _ ⟨fun c o e => ?_, fun c o e => ?_, fun c o e1 e2 => ?_⟩ (.dct b ?_)
          · have nq : c ≠ q := ne_of_none e Fq
            rw [upd_ne nq]
            by_cases z : c = a
            · rw [z, upd_same, ← ha, ← e, z]
            · rw [upd_ne z]
              exact s12 _ _ (by rw [cut_ne z]; exact e)
          · by_cases nq : c = q
            · rw [nq, upd_same] at e
              rw [nq, upd_ne nqa, hq2]
              exact e
            · rw [upd_ne nq] at e
              by_cases z : c = a
              · rw [z, upd_same] at e ⊢
                exact e
              · rw [upd_ne z] at e ⊢
                exact s2 _ _ e
          · have nq : c ≠ q := ne_of_none e2 hq
            have z : c ≠ a := fun z => by rw [z, ha] at e1; cases e1
            obtain ⟨z1, z2⟩ := keep c o (by rw [cut_ne z]; exact e1) (toL c o z e2) nq
            rw [upd_ne nq, upd_ne z, upd_ne z]
            exact ⟨z1, z2⟩
          · cases b with
            | false => exact upd_same
            | true =>
              have e := hyq rfl
              have n1 : y ≠ q := ne_of_none e f2q
              have n2 : y ≠ a := ne_of_none e f2a
              exact (show ∃ l, _ = _ ∧ _ = _ from ⟨y, upd_same, by rw [upd_ne n1, upd_ne n2]; exact e⟩)
/-- two trees that are the same -/
def spAlike (n : Nat) : Sp := fun vs H Q _ => ∃ (v u : V) (d : PyData), vs = [v, u] ∧ Tp H v d ∧ Tp H u d ∧ dep d < n ∧ siz d ≤ 100000 ∧ ∀ H', Same H H' → Q (.bl true) H'
abbrev s_l_alike : Stmt := topS 76
abbrev sc_l_alikeN : List Str := ["_law_one", "_law_other", "_law_k", "_law_key"]
abbrev ps_l_alike : List Str := ["_law_one", "_law_other"]
theorem sc_l_alike : FnScope sc_l_alikeN ps_l_alike (defScope s_l_alike) := ⟨rfl, rfl, rfl, by decide +kernel, rfl, by decide +kernel, by decide +kernel⟩
theorem ok_l_alike {f : Addr} {fd : FuncData} (F : Fun K "_law_alike" "_law_alike" s_l_alike f fd) (T : Txt K mg CS) (hm : mg "_law_alike" = some (.ref f)) (hb : Binds K fd ps_l_alike []) : ∀ n, FnOk P w K mg base CX0 n f fd ps_l_alike (spAlike n)
  | 0 => fn_no fun vs H Q E h => by
    obtain ⟨_, _, d, _, _, _, hd, _⟩ := h
    exact absurd hd (Nat.not_lt_zero _)
  | n + 1 => by
    have D_l_alike : Df P w K mg base "_law_alike" n ps_l_alike (spAlike n) := ⟨f, fd, ok_l_alike F T hm hb n, hm, F.kp, hb⟩
    refine F.ok sc_l_alike (fun vs H Q E h => ?_) (fun cdv A outer s H vs Q E hr h => ?_)
    · obtain ⟨_, _, _, rfl, _⟩ := h
      rfl
    · obtain ⟨v, u, d, rfl, hv, hu, hd, hz, k⟩ := h
      refine ⟨_, (pss_cons (ps_if (pt_val (pe_callB call_isiT (by rfl) T.n_isinstance (by decide +kernel) (pa_cons (pv 0) (pa_cons (pe_tup (pa_cons (pe_bltn (v := .ty "list") (by rfl) T.n_list (by decide +kernel) rfl) (pa_cons (pe_bltn (v := .ty "tuple") (by rfl) T.n_tuple (by decide +kernel) rfl) pa_nil))) pa_nil))))
    (pss_cons (ps_if (PW.pt (pw_or (pt_cmpR op_ne (pe_callB call_isi (by rfl) T.n_isinstance (by decide +kernel) (pa_cons (pv 0) (pa_cons (pe_bltn (v := .ty "list") (by rfl) T.n_list (by decide +kernel) rfl) pa_nil))) (pe_callB call_isi (by rfl) T.n_isinstance (by decide +kernel) (pa_cons (pv 1) (pa_cons (pe_bltn (v := .ty "list") (by rfl) T.n_list (by decide +kernel) rfl) pa_nil))) (nomark _)) (pw_or1 (pt_cmpR op_ne (pe_callB call_isi (by rfl) T.n_isinstance (by decide +kernel) (pa_cons (pv 0) (pa_cons (pe_bltn (v := .ty "tuple") (by rfl) T.n_tuple (by decide +kernel) rfl) pa_nil))) (pe_callB call_isi (by rfl) T.n_isinstance (by decide +kernel) (pa_cons (pv 1) (pa_cons (pe_bltn (v := .ty "tuple") (by rfl) T.n_tuple (by decide +kernel) rfl) pa_nil))) (nomark _)))))
      (pss_one (ps_ret pe_bl))
      pss_nil)
    (pss_cons (ps_if (pt_cmpR op_ne (pe_callB call_len_seq (by rfl) T.n_len (by decide +kernel) (pa_cons (pv 0) pa_nil)) (pe_callB call_len_seq (by rfl) T.n_len (by decide +kernel) (pa_cons (pv 1) pa_nil)) (nomark _))
      (pss_one (ps_ret pe_bl))
      pss_nil)
    (pss_one (ps_ret (pe_callB (cr_all (by rfl)) (by rfl) T.n_all (by decide +kernel) (pa_cons (pe_lc (own := [("_law_k", 2)]) (g := gName 2) (tt := tYes) (by rfl) sc_l_alike.nd (pi_range1 (by rfl) T.n_range (pa_cons (pe_callB call_len_seq (by rfl) T.n_len (by decide +kernel) (pa_cons (pv 0) pa_nil)) pa_nil)) (blkOk_by (own := [("_law_k", 2)]) (N := sc_l_alikeN) (sc := defScope s_l_alike) (by decide +kernel)) (fun _ _ _ _ _ => pg_name (i := 2) sc_l_alike.nd rfl (Or.inl rfl)) (fun _ _ _ _ _ => pts_nil) (fun _ _ _ _ _ => (pe_d D_l_alike hr (pa_cons (pe_ix (ixK_seq (K := K)) (pv 0) (pv 2) (fun _ _ => rfl)) (pa_cons (pe_ix (ixK_seq (K := K)) (pv 1) (pv 2) (fun _ _ => rfl)) pa_nil))))) pa_nil))))))
    pss_nil)
  (pss_cons (ps_if (PW.pt (pw_and (pt_val (pe_callB call_isi (by rfl) T.n_isinstance (by decide +kernel) (pa_cons (pv 0) (pa_cons (pe_bltn (v := .ty "dict") (by rfl) T.n_dict (by decide +kernel) rfl) pa_nil)))) (pw_and1 (pt_val (pe_callB call_isi (by rfl) T.n_isinstance (by decide +kernel) (pa_cons (pv 1) (pa_cons (pe_bltn (v := .ty "dict") (by rfl) T.n_dict (by decide +kernel) rfl) pa_nil)))))))
    (pss_cons (ps_if (pt_cmpR op_ne (pe_callB call_lenD (by rfl) T.n_len (by decide +kernel) (pa_cons (pv 0) pa_nil)) (pe_callB call_lenD (by rfl) T.n_len (by decide +kernel) (pa_cons (pv 1) pa_nil)) (nomark _))
      (pss_one (ps_ret pe_bl))
      pss_nil)
    (pss_one (ps_ret (pe_lock (pe_callB (cr_all (by rfl)) (by rfl) T.n_all (by decide +kernel) (pa_cons (pe_lc (own := [("_law_key", 3)]) (g := gName 3) (tt := tYes) (by rfl) sc_l_alike.nd (pi_keys (pv 0)) (blkOk_by (own := [("_law_key", 3)]) (N := sc_l_alikeN) (sc := defScope s_l_alike) (by decide +kernel)) (fun _ _ _ _ _ => pg_name (i := 3) sc_l_alike.nd rfl (Or.inl rfl)) (fun _ _ _ _ _ => pts_nil) (fun _ _ _ _ _ => (pe_and (pe_cmp (pc_din (Nat.lt_of_le_of_lt (Nat.add_le_add_left (by decide) _) hr.units) (pv 3) (pv 1)) (by rfl)) (pe_one (pe_d D_l_alike hr (pa_cons (pe_dget (Nat.lt_of_le_of_lt (Nat.add_le_add_left (by decide) _) hr.units) (pv 0) (pv 3) (fun _ _ => rfl)) (pa_cons (pe_dget1 (Nat.lt_of_le_of_lt (Nat.add_le_add_left (by decide) _) hr.units) (pv 1) (pv 3) ⟨rfl, rfl, rfl, rfl⟩) pa_nil))))))) pa_nil))))))
    pss_nil)
  (pss_one (ps_ret (pe_and (pe_cmpR op_eq (pe_callB call_isi (by rfl) T.n_isinstance (by decide +kernel) (pa_cons (pv 0) (pa_cons (pe_bltn (v := .ty "bool") (by rfl) T.n_bool (by decide +kernel) rfl) pa_nil))) (pe_callB call_isi (by rfl) T.n_isinstance (by decide +kernel) (pa_cons (pv 1) (pa_cons (pe_bltn (v := .ty "bool") (by rfl) T.n_bool (by decide +kernel) rfl) pa_nil))) (nomark _)) (pe_one (pe_cmpR op_eq (pv 0) (pv 1) (nomark _)))))))), ?_⟩
      refine ⟨_, rfl, (by show 2 ≤ sizeLine; decide), fun tp htp => ?_⟩
      have s1 : Same H (upd H tp (.tup [.ty "list", .ty "tuple"])) := same_new _ htp
      have hv1 := hv.same s1
      have hu1 := hu.same s1
      have up : (upd H tp (.tup [.ty "list", .ty "tuple"])) tp = some (.tup [.ty "list", .ty "tuple"]) := upd_same
      generalize upd H tp (.tup [.ty "list", .ty "tuple"]) = H1 at *
      have ty1 := hv1.ty (K := K)
      have ty2 := hu1.ty (K := K)
      have kt : ∀ {n : String}, n ∈ ["str", "int", "bool", "list", "tuple", "dict"] → PySem.W.kitOne K (.type (tyD d)) (.type n) = some (isD n d) := fun m => kit_ty (kit_d m)
      have same : ∀ v : V, (!decide (v = v)) = false := fun v => by simp
      refine ⟨_, tp, _, _, _, _, rfl, up, clsLT, ty1, kitAny_row, _, rfl, ?_⟩
      cases er : isRowD d with
      | true =>
        obtain ⟨a, xs, rfl, hx, ha⟩ := hv1.row er
        obtain ⟨c, ys, rfl, hy, hc⟩ := hu1.row er
        have l1 := ha.len
        have l2 := hc.len
        rw [dep_row er] at hd
        rw [siz_row er] at hz
        have ls := siz_len (partsD d)
        refine iteT ?_
        refine ⟨_, rfl, _, _, _, _, _, rfl, .ty _, ty1, kt (by simp), _, rfl, _, _, _, _, _, rfl, .ty _, ty2, kt (by simp), rfl, _, rfl, ifF (same _) ?_⟩
        refine ⟨_, rfl, _, _, _, _, _, rfl, .ty _, ty1, kt (by simp), _, rfl, _, _, _, _, _, rfl, .ty _, ty2, kt (by simp), rfl, _, rfl, ifF (same _) ?_⟩
        refine ⟨_, rfl, a, xs, rfl, rw_sq hx, _, rfl, c, ys, rfl, rw_sq hy, rfl, _, rfl, ifF (by rw [l1, l2]; exact same _) ?_⟩
        refine ⟨_, rfl, a, xs, rfl, rw_sq hx, _, rfl, by omega, by omega, fun D hD => ?_⟩
        refine lc_range (lo := 0) (n := xs.length) (fun i H' => Same H1 H' ∧ H' D = some (.lst ((xs.take i).map fun _ => V.bl true))) ⟨same_new _ hD, by rw [upd_same]; rfl⟩ ?_ ?_
        · rintro i H2 hi ⟨s2, d2⟩
          have hx1 : xs[i]? = some xs[i] := List.getElem?_eq_getElem hi
          have hy1 : ys[i]? = some (ys[i]'(by omega)) := List.getElem?_eq_getElem _
          obtain ⟨d1, e1, q1⟩ := ha.at hx1
          obtain ⟨d3, e3, q3⟩ := hc.at hy1
          obtain rfl : d1 = d3 := by rw [e1] at e3; exact Option.some.inj e3
          have md := List.mem_of_getElem? e1
          have y1 := dep_mem md
          have y2 := siz_mem md
          refine ⟨rfl, _, rfl, _, rfl, ix_sq (rw_sq (hx.same s2)) (by rw [Int.zero_add]; exact atI_nat hx1) ?_⟩
          refine ⟨_, rfl, _, rfl, ix_sq (rw_sq (hy.same s2)) (by rw [Int.zero_add]; exact atI_nat hy1) ?_⟩
          refine ⟨_, _, d1, rfl, q1.same s2, q3.same s2, by omega, by omega, fun H4 s4 => ?_⟩
          refine ⟨_, s4 _ _ d2, take_lt _ (by omega), same_put (s2.trans s4) _ hD, ?_⟩
          rw [upd_same, map_take _ hx1]
        · rintro H2 ⟨s2, d2⟩
          rw [List.take_length, bl_map] at d2
          refine ⟨D, _, rfl, .inl (.inl d2), ?_⟩
          have e3 : (xs.map fun _ => true).all id = true := by
            rw [List.all_map]
            simp
          rw [e3]
          exact k _ (s1.trans s2)
      | false =>
        refine iteF ⟨_, rfl, _, _, _, _, _, rfl, .ty _, ty1, kt (by simp), _, rfl, ?_⟩
        cases d with
        | list _ => cases er
        | tuple _ => cases er
        | dict kvs =>
          cases hv1 with
          | @dct a b hb =>
          obtain ⟨c, rfl, hcb⟩ := hu1.dict
          obtain ⟨l, ha, hl⟩ := dl_kvs hb
          obtain ⟨l2, hc, hl2⟩ := dl_kvs hcb
          have ls : ∀ l : Addr, (kvsD l b).length ≤ 1 := fun l => by cases b <;> simp [kvsD]
          have le : (kvsD l b).length = (kvsD l2 b).length := by cases b <;> rfl
          refine iteT ⟨_, rfl, _, _, _, _, _, rfl, .ty _, ty2, kt (by simp), _, rfl, iteT ?_⟩
          refine ⟨_, rfl, a, _, rfl, ha, _, rfl, c, _, rfl, hc, rfl, _, rfl, ifF (by rw [le]; exact same _) ?_⟩
          refine ⟨a, _, ha, trivial, fun od => ?_⟩
          have hL : (upd H1 a (.frz od (.dK (kvsD l b)))) a = some (.frz od (.dK (kvsD l b))) := upd_same
          have back : ∀ H', Same (upd H1 a (.frz od (.dK (kvsD l b)))) H' → Same H (upd H' a (.dK (kvsD l b))) := fun H' q b' o e => by
            by_cases z : b' = a
            · rw [z, upd_same]
              rw [← ha, ← s1 _ _ e, z]
            · rw [upd_ne z]
              exact q b' o (by rw [upd_ne z]; exact s1 b' o e)
          have rdc : Rd (upd H1 a (.frz od (.dK (kvsD l b)))) c (.dK (kvsD l2 b)) := by
            by_cases z : c = a
            · rw [z, ha] at hc
              rw [z, ← HO.dK.inj (Option.some.inj hc)]
              exact .inr ⟨od, upd_same⟩
            · exact .inl (by rw [upd_ne z]; exact hc)
          have lists : ∀ l : Addr, H1 l = some (.lst [.int 1]) → (upd H1 a (.frz od (.dK (kvsD l b)))) l = some (.lst [.int 1]) := fun l e => by
            rw [upd_ne fun z => by rw [z, ha] at e; cases e]
            exact e
          have lists2 : ∀ m : Addr, H1 m = some (.lst [.int 1]) → (upd H1 a (.frz od (.dK (kvsD l b)))) m = some (.lst [.int 1]) := fun m e => by
            rw [upd_ne fun z => by rw [z, ha] at e; cases e]
            exact e
          clear lists
          generalize upd H1 a (.frz od (.dK (kvsD l b))) = HL at *
          refine ⟨_, rfl, a, od, rfl, .inl ⟨_, hL, fun D hD => ?_⟩⟩
          have rd2 : ∀ {G : Hp}, Same HL G → Rd G c (.dK (kvsD l2 b)) := fun s => rdc.imp (fun e => s _ _ e) fun ⟨o, e⟩ => ⟨o, s _ _ e⟩
          refine lc_it walk_keys (fun i H' => Same HL H' ∧ H' D = some (.lst (((kvsD l b).take i).map fun _ => V.bl true))) ⟨same_new _ hD, by rw [upd_same]; rfl⟩ (fun i H' _ z => z.1 _ _ hL) ?_ ?_
          · rintro i x H2 H3 hi ⟨s2, d2⟩ ⟨rfl, kk, v0, hk, rfl⟩
            have two : b = true ∧ i = 0 ∧ kk = (Sum.inr (("a" : Str)) : Key) ∧ v0 = .ref l := by
              cases b with
              | false => cases hk
              | true =>
                cases i with
                | zero =>
                  cases hk
                  exact ⟨rfl, rfl, rfl, rfl⟩
                | succ i => cases hk
            obtain ⟨rfl, rfl, rfl, rfl⟩ := two
            have rd : Rd H3 a (.dK (kvsD l true)) := .inr ⟨od, s2 _ _ hL⟩
            have dg : DGet H3 a (kV (Sum.inr "a")) (some (.ref l)) := .inl ⟨_, _, rd, rfl, rfl⟩
            have dgc : DGet H3 c (kV (Sum.inr "a")) (some (.ref l2)) := .inl ⟨_, _, rd2 s2, rfl, rfl⟩
            have dp1 : dep (PyData.list [.int 1]) < n := by
              have z : dep (dictD true) < n + 1 := hd
              show 1 + max 0 0 < n
              have y : dep (dictD true) = 2 := rfl
              omega
            refine ⟨rfl, _, rfl, _, rfl, c, _, rfl, dgc, _, rfl, iteT ?_⟩
            refine ⟨_, rfl, _, rfl, a, _, rfl, dg, _, rfl, c, rfl, .inl ⟨_, rd2 s2⟩, _, rfl, some (.ref l2), dgc, _, _, .list [.int 1], rfl, .lst (s2 _ _ (lists2 _ (hl rfl))) (.cons (.int 1) .nil), .lst (s2 _ _ (lists2 _ (hl2 rfl))) (.cons (.int 1) .nil), dp1, by decide, fun H4 s4 => ?_⟩
            refine ⟨_, s4 _ _ d2, (by show 0 < sizeLine; decide), same_put (s2.trans s4) _ hD, ?_⟩
            rw [upd_same]
            rfl
          · rintro H2 ⟨s2, d2⟩
            rw [List.take_length, bl_map] at d2
            refine ⟨D, _, rfl, .inl (.inl d2), s2 _ _ hL, ?_⟩
            have e3 : ((kvsD l b).map fun _ => true).all id = true := by
              rw [List.all_map]
              simp
            rw [e3]
            exact k _ (back _ s2)
        | none =>
          cases hv1
          cases hu1
          refine iteF (iteF ⟨_, rfl, _, _, _, _, _, rfl, .ty _, ty1, kt (by simp), _, rfl, _, _, _, _, _, rfl, .ty _, ty2, kt (by simp), rfl, _, rfl, ifT (decide_eq_true rfl) ⟨_, rfl, _, rfl, rfl, ?_⟩⟩)
          rw [decide_eq_true rfl]
          exact k _ s1
        | bool b =>
          cases hv1
          cases hu1
          refine iteF (iteF ⟨_, rfl, _, _, _, _, _, rfl, .ty _, ty1, kt (by simp), _, rfl, _, _, _, _, _, rfl, .ty _, ty2, kt (by simp), rfl, _, rfl, ifT (decide_eq_true rfl) ⟨_, rfl, _, rfl, rfl, ?_⟩⟩)
          rw [decide_eq_true rfl]
          exact k _ s1
        | int b =>
          cases hv1
          cases hu1
          refine iteF (iteF ⟨_, rfl, _, _, _, _, _, rfl, .ty _, ty1, kt (by simp), _, rfl, _, _, _, _, _, rfl, .ty _, ty2, kt (by simp), rfl, _, rfl, ifT (decide_eq_true rfl) ⟨_, rfl, _, rfl, rfl, ?_⟩⟩)
          rw [decide_eq_true rfl]
          exact k _ s1
        | str b =>
          cases hv1
          cases hu1
          refine iteF (iteF ⟨_, rfl, _, _, _, _, _, rfl, .ty _, ty1, kt (by simp), _, rfl, _, _, _, _, _, rfl, .ty _, ty2, kt (by simp), rfl, _, rfl, ifT (decide_eq_true rfl) ⟨_, rfl, _, rfl, rfl, ?_⟩⟩)
          rw [decide_eq_true rfl]
          exact k _ s1
end
end Fm

/-! ## FmSeq -/
set_option Elab.async false
set_option maxRecDepth 100000
set_option maxHeartbeats 4000000
/-! Rules for what is a list or a tuple: slices, +, *. -/
namespace Fm
open PySem PySem.Spec PyProof.Rows L2
/-- t * k that is t itself -/
theorem tup_same (l : Addr) (items : Array Value) (n : Nat) (dd : Option Addr) (sl : Array (Option Value)) (x : Int) (u : Tok) (z0 : (decide (x < -(2 ^ 63)) || decide (x ≥ 2 ^ 63)) = false) (z1 : (items.isEmpty || x == 1) = true) :
    Meets (Builtin.«tuple.__mul__» ⟨[.ref l, .int x u], []⟩) (fun _ R s => s.heap.get? l = some { cls := .type "tuple", dict := dd, data := .seq items n, slots := sl } ∧ ∀ tk, R (.ok (.ret (Value.ref l))) { s with toks := tk }) :=
  .of_wp fun prog w A R s h => by
    obtain ⟨hp, g, d, tk, os⟩ := s
    obtain ⟨hl, q⟩ := h
    have f0 := AutoSeq1.idx_int
    wp_walk using wpAny_loadPart' hl
    repeat (first
      | (refine wpAny_ite_false (decide_eq_false (by rw [z0]; exact Bool.false_ne_true)) ?_; wp_walk using wpAny_loadPart' hl)
      | (refine wpAny_ite_true (decide_eq_true z1) ?_; wp_walk using wpAny_loadPart' hl))
    exact ⟨_, rfl, q _⟩
/-- t * k, t empty or k = 1: t itself -/
def rRep1 (K : PySem.W.Frag) : R2 := fun x y H Q => ∃ l k xs, x = .ref l ∧ y = .int k ∧ SqT K H l xs ∧ (xs = [] ∨ k = 1) ∧ 0 ≤ k ∧ k ≤ 1000 ∧ Q (.ref l) H
section
variable {X : Cx}
theorem op_rep1 : OpR X (binaryOp .Mult) (rRep1 X.K) := by
  intro pins s σ H x y v u Q I rx ry h
  obtain ⟨l, k, xs, rfl, rfl, hT, hc, h1, h2, q⟩ := h
  cases rx
  obtain ⟨t, rfl⟩ := ry
  obtain ⟨its, r, ⟨⟨cls, dd, data, sl⟩, ho, hcl, n, hd⟩, hs⟩ := I.tuple hT
  simp only at hcl hd
  subst hcl hd
  have z0 : (decide (k < -(2 ^ 63)) || decide (k ≥ 2 ^ 63)) = false := by
    rw [decide_eq_false (by omega), decide_eq_false (by omega)] <;> rfl
  have z1 : (its.toArray.isEmpty || k == 1) = true := by
    rcases hc with e | e
    · rw [e] at r
      cases r
      rfl
    · rw [e]
      simp
  exact wpAny_binaryOp_repeat_ref (T := "tuple") (U := "int") (by decide) ⟨_, ho, rfl⟩ (fun s2 => typeIs_int s2 k t) noFill_tuple_mul F.fills_int_mul F.slot_int_rmul repeat_tuple F.slot_int_index.lookup (call_meets F.slot_int_rmul (typeIs_int s k t) F.entry_int_rmul (F.args_int_rmul_2 _ _)
    (int_rmul_tuple k t l its.toArray n dd sl) ⟨ho, rfl, ⟨_, ho, rfl⟩, call_meets F.slot_tuple_mul ⟨_, ho, rfl⟩ F.entry_tuple_mul (F.args_tuple_mul_2 _ _) (tup_same l its.toArray n dd sl k t z0 z1) ⟨ho, fun tk => ⟨.ref l, H, I.kept (t' := tk) fun b u z => z, rfl, q⟩⟩⟩)
/-- a slice of a list or a tuple -/
theorem sl_any : SlR X (fun x lo hi H Q => rSlL X.K x lo hi H Q ∨ rSlA X.K x lo hi H Q) := SlR.or sl_list sl_tupA
/-- two lists, two tuples, one behind the other -/
theorem op_catAny : OpR X (binaryOp .Add) (fun x y H Q => rCat x y H Q ∨ rCatA X.K x y H Q) := OpR.or op_cat op_catA
/-- a list, a tuple, so many times -/
theorem op_repAny : OpR X (binaryOp .Mult) (fun x y H Q => rRep x y H Q ∨ (rRep1 X.K x y H Q ∨ rRepT X.K x y H Q)) := OpR.or op_rep (OpR.or op_rep1 op_repT)
end
/-! ### what they do to trees -/
/-- a tree of the same kind with other parts -/
def likeD (d : PyData) (ds : List PyData) : PyData := match d with
  | .list _ => .list ds
  | _ => .tuple ds
section
variable {K : PySem.W.Frag} {F H : Hp} {Q : VK}
theorem sq_lst {a : Addr} {xs : List V} (h : H a = some (.lst xs)) : SqL K H a xs := .inl (.inl h)
theorem sq_tup {a : Addr} {xs : List V} (h : H a = some (.tup xs)) : SqT K H a xs := .inl (.inl h)
theorem like_row {d : PyData} {ds : List PyData} : isRowD (likeD d ds) = true ∧ partsD (likeD d ds) = ds := by cases d <;> exact ⟨rfl, rfl⟩
theorem like_same {d : PyData} (h : isRowD d = true) : likeD d (partsD d) = d := by cases d <;> first | rfl | cases h
/-- a slice: some part of the row -/
theorem sl_tree {v : V} {d : PyData} {lo hi : Option Int} (s : Same F H) (hv : Tp F v d) (hr : isRowD d = true) (k : ∀ u F' H', Grow F H F' H' → Tp F' u (likeD d ((partsD d).drop (HT.sIx (partsD d).length 0 lo) |>.take (HT.sIx (partsD d).length (partsD d).length hi - HT.sIx (partsD d).length 0 lo))) → Q u H') :
    rSlL K v lo hi H Q ∨ rSlA K v lo hi H Q := by
  cases d with
  | list ds =>
    obtain ⟨a, xs, rfl, hx, ha⟩ := hv.list
    refine .inl ⟨a, xs, rfl, sq_lst (s _ _ hx), fun p hp => k _ _ _ (Grow.new s _ hp) (.lst upd_same ?_)⟩
    unfold cutV
    rw [ha.len]
    exact ((ha.drop _).take _).same (same_new _ (s.free hp))
  | tuple ds =>
    obtain ⟨a, xs, rfl, hx, ha⟩ := hv.tuple
    refine .inr ⟨a, xs, rfl, sq_tup (s _ _ hx), fun e => k _ _ _ (Grow.refl s) ?_, fun _ p hp => k _ _ _ (Grow.new s _ hp) (.tup upd_same ?_)⟩
    · rw [ha.len] at e
      rw [show (partsD (PyData.tuple ds)) = ds from rfl, e.1, e.2, List.drop_zero, Nat.sub_zero, List.take_length]
      exact hv
    · unfold cutV
      rw [ha.len]
      exact ((ha.drop _).take _).same (same_new _ (s.free hp))
  | _ => cases hr
/-- two rows of one kind, one behind the other -/
theorem cat_tree {v u : V} {d : PyData} {ds es : List PyData} (s : Same F H) (hv : Tp F v (likeD d ds)) (hu : Tp F u (likeD d es)) (hl : ds.length + es.length ≤ 100000) (k : ∀ w F' H', Grow F H F' H' → Tp F' w (likeD d (ds ++ es)) → Q w H') : rCat v u H Q ∨ rCatA K v u H Q := by
  have sz : ds.length + es.length ≤ sizeLine := Nat.le_of_lt (Nat.lt_of_le_of_lt hl (by decide))
  have tupc : ∀ {a b : V}, Tp F a (.tuple ds) → Tp F b (.tuple es) → (∀ w F' H', Grow F H F' H' → Tp F' w (.tuple (ds ++ es)) → Q w H') → rCatA K a b H Q := fun ha hb k => by
    obtain ⟨a, xs, rfl, hx, ta⟩ := ha.tuple
    obtain ⟨b, ys, rfl, hy, tb⟩ := hb.tuple
    refine ⟨a, b, xs, ys, rfl, rfl, sq_tup (s _ _ hx), sq_tup (s _ _ hy), by rw [ta.len, tb.len]; exact sz, fun e => ?_, fun _ e => ?_, fun _ _ p hp => k _ _ _ (Grow.new s _ hp) (.tup upd_same ((ta.app tb).same (same_new _ (s.free hp))))⟩
    · rw [e] at ta
      cases ta
      exact k _ _ _ (Grow.refl s) hb
    · rw [e] at tb
      cases tb
      rw [List.append_nil] at k
      exact k _ _ _ (Grow.refl s) ha
  cases d with
  | list zs =>
    obtain ⟨a, xs, rfl, hx, ta⟩ := (show Tp F v (.list ds) from hv).list
    obtain ⟨b, ys, rfl, hy, tb⟩ := (show Tp F u (.list es) from hu).list
    exact .inl ⟨a, b, xs, ys, rfl, rfl, s _ _ hx, s _ _ hy, by rw [ta.len, tb.len]; exact sz, fun p hp => k _ _ _ (Grow.new s _ hp) (.lst upd_same ((ta.app tb).same (same_new _ (s.free hp))))⟩
  | none => exact .inr (tupc hv hu k)
  | bool _ => exact .inr (tupc hv hu k)
  | int _ => exact .inr (tupc hv hu k)
  | str _ => exact .inr (tupc hv hu k)
  | tuple _ => exact .inr (tupc hv hu k)
  | dict _ => exact .inr (tupc hv hu k)
/-- a row so many times -/
theorem rep_tree {v : V} {d : PyData} {ds : List PyData} {c : Nat} (s : Same F H) (hv : Tp F v (likeD d ds)) (h1 : 1 ≤ c) (hc : c ≤ 100) (hl : ds.length ≤ 1000) (k : ∀ w F' H', Grow F H F' H' → Tp F' w (likeD d (List.replicate c ds).flatten) → Q w H') :
    rRep v (.int c) H Q ∨ (rRep1 K v (.int c) H Q ∨ rRepT K v (.int c) H Q) := by
  have tupc : ∀ {a : V}, Tp F a (.tuple ds) → (∀ w F' H', Grow F H F' H' → Tp F' w (.tuple (List.replicate c ds).flatten) → Q w H') → (rRep1 K a (.int c) H Q ∨ rRepT K a (.int c) H Q) := fun ha k => by
    obtain ⟨a, xs, rfl, hx, ta⟩ := ha.tuple
    by_cases e : xs = [] ∨ (c : Int) = 1
    · refine .inl ⟨a, c, xs, rfl, rfl, sq_tup (s _ _ hx), e, by omega, by omega, k _ _ _ (Grow.refl s) ?_⟩
      rcases e with e | e
      · rw [e] at ta
        cases ta
        rw [show (List.replicate c ([] : List PyData)).flatten = [] by simp]
        exact ha
      · have ec : c = 1 := by omega
        rw [ec, show (List.replicate 1 ds).flatten = ds by simp]
        exact ha
    · refine .inr ⟨a, c, xs, rfl, rfl, sq_tup (s _ _ hx), fun z => e (.inl z), ?_, by omega, by rw [ta.len]; exact hl, fun p hp => k _ _ _ (Grow.new s _ hp) (.tup upd_same ?_)⟩
      · have z : (c : Int) ≠ 1 := fun z => e (.inr z)
        omega
      · rw [Int.toNat_natCast]
        exact (ta.rep c).same (same_new _ (s.free hp))
  cases d with
  | list zs =>
    obtain ⟨a, xs, rfl, hx, ta⟩ := (show Tp F v (.list ds) from hv).list
    refine .inl ⟨a, c, xs, rfl, rfl, s _ _ hx, by omega, by omega, ?_, fun p hp => k _ _ _ (Grow.new s _ hp) (.lst upd_same ?_)⟩
    · rw [Int.toNat_natCast, ta.len]
      exact Nat.le_of_lt (Nat.lt_of_le_of_lt (Nat.mul_le_mul hl hc) (by decide))
    · rw [Int.toNat_natCast]
      exact (ta.rep c).same (same_new _ (s.free hp))
  | none => exact .inr (tupc hv k)
  | bool _ => exact .inr (tupc hv k)
  | int _ => exact .inr (tupc hv k)
  | str _ => exact .inr (tupc hv k)
  | tuple _ => exact .inr (tupc hv k)
  | dict _ => exact .inr (tupc hv k)
end
end Fm

/-! ## K08I -/
set_option Elab.async false
set_option maxRecDepth 100000
set_option maxHeartbeats 4000000
namespace Fm
open PySem L2
theorem cutV_from (xs : List V) (k : Nat) (h : k ≤ xs.length) : cutV xs (some (k : Int)) none = xs.drop k := by
  unfold cutV
  rw [HT.sIx_none, HT.sIx_nat, Nat.min_eq_left h, List.take_of_length_le (by rw [List.length_drop]; omega)]
/-! ### places within a tree -/
mutual
/-- all paths, from the root -/
def pathsD : PyData → List (List Nat)
  | .list ds => [] :: pathsL 0 ds
  | .tuple ds => [] :: pathsL 0 ds
  | _ => [[]]
def pathsL (i : Nat) : List PyData → List (List Nat)
  | [] => []
  | d :: ds => (pathsD d).map (i :: ·) ++ pathsL (i + 1) ds
end
/-- the part at a path -/
def partAt : PyData → List Nat → Option PyData
  | d, [] => some d
  | d, i :: p => if isRowD d = true then (match (partsD d)[i]? with | some c => partAt c p | none => none) else none
/-- another part at a path -/
def withD : PyData → List Nat → PyData → PyData
  | _, [], c => c
  | d, i :: p, c => match (partsD d)[i]? with | some e => likeD d ((partsD d).set i (withD e p c)) | none => d
mutual
theorem paths_len : ∀ d : PyData, (pathsD d).length = siz d
  | .none => rfl
  | .bool _ => rfl
  | .int _ => rfl
  | .str _ => rfl
  | .dict _ => rfl
  | .list ds => by
    show (pathsL 0 ds).length + 1 = 1 + sizL ds
    rw [pathsL_len 0 ds, Nat.add_comm]
  | .tuple ds => by
    show (pathsL 0 ds).length + 1 = 1 + sizL ds
    rw [pathsL_len 0 ds, Nat.add_comm]
theorem pathsL_len : ∀ (i : Nat) (ds : List PyData), (pathsL i ds).length = sizL ds
  | _, [] => rfl
  | i, d :: ds => by
    show ((pathsD d).map (i :: ·) ++ pathsL (i + 1) ds).length = siz d + sizL ds
    rw [List.length_append, List.length_map, paths_len d, pathsL_len (i + 1) ds]
end
theorem sizL_app : ∀ ds es : List PyData, sizL (ds ++ es) = sizL ds + sizL es
  | [], es => by show sizL es = 0 + sizL es; rw [Nat.zero_add]
  | d :: ds, es => by
    show siz d + sizL (ds ++ es) = siz d + sizL ds + sizL es
    rw [sizL_app ds es, Nat.add_assoc]
theorem pathsL_snoc : ∀ (ds : List PyData) (i : Nat) (d : PyData), pathsL i (ds ++ [d]) = pathsL i ds ++ (pathsD d).map ((i + ds.length) :: ·)
  | [], i, d => by
    show (pathsD d).map (i :: ·) ++ [] = [] ++ (pathsD d).map ((i + 0) :: ·)
    rw [List.append_nil, List.nil_append]
    rfl
  | c :: ds, i, d => by
    show (pathsD c).map (i :: ·) ++ pathsL (i + 1) (ds ++ [d]) = ((pathsD c).map (i :: ·) ++ pathsL (i + 1) ds) ++ (pathsD d).map ((i + (ds.length + 1)) :: ·)
    rw [pathsL_snoc ds (i + 1) d, List.append_assoc, show i + 1 + ds.length = i + (ds.length + 1) by omega]
theorem paths_row {d : PyData} (h : isRowD d = true) : pathsD d = [] :: pathsL 0 (partsD d) := by
  cases d <;> first | rfl | cases h
theorem paths_flat {d : PyData} (h : isRowD d = false) : pathsD d = [[]] := by
  cases d <;> first | rfl | cases h
mutual
theorem paths_at : ∀ (d : PyData) (p : List Nat), p ∈ pathsD d → ∃ c, partAt d p = some c
  | .none, p, h => by rw [List.mem_singleton.mp (show p ∈ [[]] from h)]; exact ⟨_, rfl⟩
  | .bool _, p, h => by rw [List.mem_singleton.mp (show p ∈ [[]] from h)]; exact ⟨_, rfl⟩
  | .int _, p, h => by rw [List.mem_singleton.mp (show p ∈ [[]] from h)]; exact ⟨_, rfl⟩
  | .str _, p, h => by rw [List.mem_singleton.mp (show p ∈ [[]] from h)]; exact ⟨_, rfl⟩
  | .dict _, p, h => by rw [List.mem_singleton.mp (show p ∈ [[]] from h)]; exact ⟨_, rfl⟩
  | .list ds, p, h => by
    rcases List.mem_cons.mp (show p ∈ [] :: pathsL 0 ds from h) with rfl | h
    · exact ⟨_, rfl⟩
    · obtain ⟨j, c, q, e, hj, hq⟩ := pathsL_at 0 ds p h
      obtain ⟨x, hx⟩ := hq
      refine ⟨x, ?_⟩
      rw [e, Nat.zero_add]
      show (if true = true then (match ds[j]? with | some c => partAt c q | none => none) else none) = some x
      rw [if_pos rfl, hj]
      exact hx
  | .tuple ds, p, h => by
    rcases List.mem_cons.mp (show p ∈ [] :: pathsL 0 ds from h) with rfl | h
    · exact ⟨_, rfl⟩
    · obtain ⟨j, c, q, e, hj, hq⟩ := pathsL_at 0 ds p h
      obtain ⟨x, hx⟩ := hq
      refine ⟨x, ?_⟩
      rw [e, Nat.zero_add]
      show (if true = true then (match ds[j]? with | some c => partAt c q | none => none) else none) = some x
      rw [if_pos rfl, hj]
      exact hx
theorem pathsL_at : ∀ (i : Nat) (ds : List PyData) (p : List Nat), p ∈ pathsL i ds → ∃ (j : Nat) (c : PyData) (q : List Nat), p = (i + j) :: q ∧ ds[j]? = some c ∧ ∃ x, partAt c q = some x
  | _, [], p, h => by cases h
  | i, d :: ds, p, h => by
    rcases List.mem_append.mp (show p ∈ (pathsD d).map (i :: ·) ++ pathsL (i + 1) ds from h) with h | h
    · obtain ⟨q, hq, rfl⟩ := List.mem_map.mp h
      exact ⟨0, d, q, rfl, rfl, paths_at d q hq⟩
    · obtain ⟨j, c, q, rfl, hj, hq⟩ := pathsL_at (i + 1) ds p h
      exact ⟨j + 1, c, q, by rw [show i + 1 + j = i + (j + 1) by omega], by simpa using hj, hq⟩
end
section
variable {P : Program} {w : World} {K : PySem.W.Frag} {mg : Str → Option Value} {base : Heap} {CS CB : Addr}
def natsD (p : List Nat) : PyData := .tuple (p.map fun i => .int (i : Nat))
theorem nats_tp {H : Hp} : ∀ p : List Nat, TpAll H (p.map fun i => V.int (i : Nat)) (p.map fun i => PyData.int (i : Nat))
  | [] => .nil
  | i :: p => .cons (.int _) (nats_tp p)
theorem nats_inv {H : Hp} : ∀ {p : List Nat} {xs : List V}, TpAll H xs (p.map fun i => PyData.int (i : Nat)) → xs = p.map fun i => V.int (i : Nat)
  | [], _, h => by cases h; rfl
  | i :: p, _, h => by
    cases h with
    | cons h1 h2 =>
      rw [h1.intI, nats_inv h2]
      rfl
/-- all places of a tree, behind a path -/
def spPlaces (n : Nat) : Sp := fun vs H Q _ => ∃ (F : Hp) (v : V) (a : Addr) (d : PyData) (pre : List Nat), vs = [v, .ref a] ∧ Same F H ∧ Tp F v d ∧ F a = some (.tup (pre.map fun i => V.int (i : Nat))) ∧ dep d < n ∧ siz d ≤ 100000 ∧ pre.length + n ≤ 1000 ∧
  ∀ L xs F' H', Grow F H F' H' → F' L = some (.lst xs) → TpAll F' xs ((pathsD d).map fun p => natsD (pre ++ p)) → Q (.ref L) H'
abbrev s_l_places : Stmt := topS 77
abbrev sc_l_placesN : List Str := ["_law_thing", "_law_path", "_law_found", "_law_k"]
abbrev ps_l_places : List Str := ["_law_thing", "_law_path"]
theorem sc_l_places : FnScope sc_l_placesN ps_l_places (defScope s_l_places) := ⟨rfl, rfl, rfl, by decide +kernel, rfl, by decide +kernel, by decide +kernel⟩
theorem ok_l_places {f : Addr} {fd : FuncData} (F : Fun K "_law_places" "_law_places" s_l_places f fd) (T : Txt K mg CS) (hm : mg "_law_places" = some (.ref f)) (hb : Binds K fd ps_l_places []) : ∀ n, FnOk P w K mg base CX0 n f fd ps_l_places (spPlaces n)
  | 0 => fn_no fun vs H Q E h => by
    obtain ⟨_, _, _, d, _, _, _, _, _, hd, _⟩ := h
    exact absurd hd (Nat.not_lt_zero _)
  | n + 1 => by
    have D_l_places : Df P w K mg base "_law_places" n ps_l_places (spPlaces n) := ⟨f, fd, ok_l_places F T hm hb n, hm, F.kp, hb⟩
    refine F.ok sc_l_places (fun vs H Q E h => ?_) (fun cdv A outer s H vs Q E hr h => ?_)
    · obtain ⟨_, _, _, _, _, rfl, _⟩ := h
      rfl
    · obtain ⟨F0, v, a, d, pre, rfl, sF, hv, ha, hd, hz, hp, k⟩ := h
      refine ⟨_, (pss_cons (ps_set (i := 2) sc_l_places.nd rfl (Or.inl rfl) (pe_lst (pa_cons (pv 1) pa_nil)))
  (Evl.pss_cut (ps_if (pt_val (pe_callB call_isiT (by rfl) T.n_isinstance (by decide +kernel) (pa_cons (pv 0) (pa_cons (pe_tup (pa_cons (pe_bltn (v := .ty "list") (by rfl) T.n_list (by decide +kernel) rfl) (pa_cons (pe_bltn (v := .ty "tuple") (by rfl) T.n_tuple (by decide +kernel) rfl) pa_nil))) pa_nil))))
    (pss_one (ps_for PassesOwn.never rfl (pi_range1 (by rfl) T.n_range (pa_cons (pe_callB call_len_seq (by rfl) T.n_len (by decide +kernel) (pa_cons (pv 0) pa_nil)) pa_nil)) (pg_name (i := 3) sc_l_places.nd rfl (Or.inl rfl))
      (pss_one (ps_expr (pe_bm PySem.F.plainAttrs_list PySem.F.slot_list_extend PySem.F.type_list_extend mt_extend (pv 2) (pa_cons (pe_d D_l_places hr (pa_cons (pe_ix (ixK_seq (K := K)) (pv 0) (pv 3) (fun _ _ => rfl)) (pa_cons (pe_op op_catA (pv 1) (pe_tup (pa_cons (pv 3) pa_nil))) pa_nil))) pa_nil))))))
    pss_nil)
  (pss_one (ps_ret (pv 2))))), ?_⟩
      refine ⟨_, rfl, (by show 1 ≤ sizeLine; decide), fun L hL => ?_⟩
      have ac0 : Acc F0 H L F0 (upd H L (.lst [.ref a])) [.ref a] := by
        have z := (Acc.start sF hL).add [.ref a]
        rw [upd_upd] at z
        exact z
      have ta0 : TpAll F0 [.ref a] [natsD pre] := .cons (.tup ha (nats_tp pre)) .nil
      generalize upd H L (.lst [.ref a]) = H1 at *
      refine ⟨fun σ' H' => ∃ v3 F2 xs, σ' = [some v, some (.ref a), some (.ref L), v3] ∧ Acc F0 H L F2 H' xs ∧ TpAll F2 xs ((pathsD d).map fun p => natsD (pre ++ p)), ?_, ?_⟩
      · refine ⟨_, rfl, (by show 2 ≤ sizeLine; decide), fun tp htp => ?_⟩
        have up : (upd H1 tp (.tup [.ty "list", .ty "tuple"])) tp = some (.tup [.ty "list", .ty "tuple"]) := upd_same
        have g1 : Grow F0 H1 F0 (upd H1 tp (.tup [.ty "list", .ty "tuple"])) := (Grow.refl ac0.g.fh).junk (ac0.g.fh.free htp) htp _
        have ac1 := ac0.then g1
        generalize upd H1 tp (.tup [.ty "list", .ty "tuple"]) = H2 at *
        refine ⟨_, tp, _, _, _, _, rfl, up, clsLT, (hv.same ac1.g.fh).ty, kitAny_row, _, rfl, ?_⟩
        cases e : isRowD d with
        | false =>
          refine iteF ⟨_, F0, [.ref a], rfl, ac1, ?_⟩
          rw [paths_flat e]
          show TpAll F0 [.ref a] [natsD (pre ++ [])]
          rw [List.append_nil]
          exact ta0
        | true =>
          obtain ⟨c, xs, rfl, hx, hxs⟩ := hv.row e
          rw [dep_row e] at hd
          have hz2 := hz
          rw [siz_row e] at hz2
          have ls := siz_len (partsD d)
          have lx := hxs.len
          refine iteT ⟨_, rfl, c, xs, rfl, rw_sq (hx.same ac1.g.fh), _, rfl, by omega, by omega, ?_⟩
          refine for_range (lo := 0) (n := xs.length) (fun i σ H' => ∃ v3 F2 ys, σ = [some (.ref c), some (.ref a), some (.ref L), v3] ∧ Acc F0 H L F2 H' ys ∧ TpAll F2 ys (([] :: pathsL 0 ((partsD d).take i)).map fun p => natsD (pre ++ p)))
            ⟨_, F0, [.ref a], rfl, ac1, by show TpAll F0 [.ref a] [natsD (pre ++ [])]; rw [List.append_nil]; exact ta0⟩ ?_ ?_
          · rintro i σ H3 hi ⟨v3, F2, ys, rfl, ac, ta⟩
            have hx1 : xs[i]? = some xs[i] := List.getElem?_eq_getElem hi
            obtain ⟨c1, e1, q1⟩ := hxs.at hx1
            have mc := List.mem_of_getElem? e1
            have y1 := dep_mem mc
            have y2 := siz_mem mc
            have hxF := (hx.same ac.g.ff).same ac.g.fh
            refine ⟨_, rfl, .inl ⟨rfl, _, .inl (.inl ac.at_)⟩, ?_⟩
            refine ⟨_, rfl, _, rfl, ix_sq (rw_sq hxF) (by rw [Int.zero_add]; exact atI_nat hx1) ?_⟩
            refine ⟨_, rfl, _, rfl, (by show 1 ≤ sizeLine; decide), fun t ht => ?_⟩
            rw [show (0 : Int) + ((i : Nat) : Int) = (i : Nat) from Int.zero_add _]
            have mi : ∀ {F3 : Hp} {zs : List V}, Same F2 F3 → TpAll F3 zs ((pathsD c1).map fun p => natsD ((pre ++ [i]) ++ p)) → TpAll F3 (ys ++ zs) (([] :: pathsL 0 ((partsD d).take (i + 1))).map fun p => natsD (pre ++ p)) := fun s3 t3 => by
              have z := (ta.same s3).app t3
              rw [List.take_add_one, e1]
              show TpAll _ _ (([] :: pathsL 0 ((partsD d).take i ++ [c1])).map fun p => natsD (pre ++ p))
              rw [pathsL_snoc, Nat.zero_add, List.length_take, Nat.min_eq_left (by omega), ← List.cons_append, List.map_append, List.map_map]
              have q : ((fun p => natsD (pre ++ p)) ∘ (i :: ·)) = fun p => natsD ((pre ++ [i]) ++ p) := funext fun p => by
                show natsD (pre ++ i :: p) = _
                rw [List.append_assoc]
                rfl
              rw [q]
              exact z
            have lys : ys.length ≤ 100000 := by
              rw [ta.len, List.length_map]
              show (pathsL 0 ((partsD d).take i)).length + 1 ≤ 100000
              rw [pathsL_len]
              have z : sizL ((partsD d).take i) ≤ sizL (partsD d) := by
                have q := sizL_app ((partsD d).take i) ((partsD d).drop i)
                rw [List.take_append_drop] at q
                omega
              omega
            have lzs : ∀ {F3 : Hp} {zs : List V}, TpAll F3 zs ((pathsD c1).map fun p => natsD ((pre ++ [i]) ++ p)) → ys.length + zs.length ≤ sizeLine := fun t3 => by
              rw [t3.len, List.length_map, paths_len]
              exact Nat.le_of_lt (Nat.lt_of_le_of_lt (show ys.length + siz c1 ≤ 200000 by omega) (by decide))
            have hpa := ac.g.fh _ _ (ac.g.ff _ _ ha)
            refine ⟨a, t, _, [.int (i : Nat)], rfl, rfl, .inl (.inl (same_new _ ht _ _ hpa)), .inl (.inl upd_same), ?_, fun z => ?_, fun _ z => (by cases z), fun _ _ p hp1 => ?_⟩
            · rw [List.length_map]
              exact Nat.le_of_lt (Nat.lt_of_le_of_lt (show pre.length + 1 ≤ 2000 by omega) (by decide))
            · have z2 : pre = [] := List.map_eq_nil_iff.mp z
              have g2 := Grow.new ac.g.fh (.tup [.int (i : Nat)]) ht
              have ac2 := ac.then g2
              refine ⟨_, xs[i], t, c1, pre ++ [i], rfl, ac2.g.fh, (q1.same ac2.g.ff), by rw [upd_same, z2]; rfl, by omega, by omega, by rw [List.length_append]; show pre.length + 1 + n ≤ 1000; omega, fun L2 zs F4 H5 g eL ta2 => ?_⟩
              have ac3 := ac2.then g
              exact ⟨L, L2, ys, zs, rfl, rfl, ac3.at_, g.fh _ _ eL, lzs ta2, _, F4, ys ++ zs, rfl, ac3.add _, mi (g2.ff.trans g.ff) ta2⟩
            · have j2 : Grow F2 H3 F2 (upd H3 t (.tup [.int (i : Nat)])) := (Grow.refl ac.g.fh).junk (ac.g.fh.free ht) ht _
              have g2 := j2.trans (Grow.new j2.fh (.tup ((pre.map fun i => V.int (i : Nat)) ++ [.int (i : Nat)])) hp1)
              have ac2 := ac.then g2
              refine ⟨_, xs[i], p, c1, pre ++ [i], rfl, ac2.g.fh, (q1.same ac2.g.ff), by rw [upd_same, List.map_append]; rfl, by omega, by omega, by rw [List.length_append]; show pre.length + 1 + n ≤ 1000; omega, fun L2 zs F4 H5 g eL ta2 => ?_⟩
              have ac3 := ac2.then g
              exact ⟨L, L2, ys, zs, rfl, rfl, ac3.at_, g.fh _ _ eL, lzs ta2, _, F4, ys ++ zs, rfl, ac3.add _, mi (g2.ff.trans g.ff) ta2⟩
          · rintro σ H3 ⟨v3, F2, ys, rfl, ac, ta⟩
            rw [lx, List.take_length] at ta
            rw [paths_row e]
            exact ⟨_, F2, ys, rfl, ac, ta⟩
      · rintro σ' H2 ⟨v3, F2, xs, rfl, ac, ta⟩
        exact ⟨_, rfl, k L xs _ _ ac.keep upd_same (ta.same (same_new _ ac.no))⟩
/-- the part at a path -/
def spAt : Sp := fun vs H Q _ => ∃ (F : Hp) (v : V) (a : Addr) (d c : PyData) (p : List Nat), vs = [v, .ref a] ∧ Same F H ∧ Tp F v d ∧ F a = some (.tup (p.map fun i => V.int (i : Nat))) ∧ partAt d p = some c ∧ ∀ u, Tp F u c → Q u H
abbrev s_l_at : Stmt := topS 78
abbrev sc_l_atN : List Str := ["_law_thing", "_law_path", "_law_k"]
abbrev ps_l_at : List Str := ["_law_thing", "_law_path"]
theorem sc_l_at : FnScope sc_l_atN ps_l_at (defScope s_l_at) := ⟨rfl, rfl, rfl, by decide +kernel, rfl, by decide +kernel, by decide +kernel⟩
theorem ok_l_at {f : Addr} {fd : FuncData} (F : Fun K "_law_at" "_law_at" s_l_at f fd) : FnOk P w K mg base CX0 1 f fd ps_l_at spAt := by
  refine F.ok sc_l_at (fun vs H Q E h => ?_) (fun cdv A outer s H vs Q E hr h => ?_)
  · obtain ⟨_, _, _, _, _, _, rfl, _⟩ := h
    rfl
  · obtain ⟨F0, v, a, d, c, p, rfl, sF, hv, ha, hp, k⟩ := h
    refine ⟨_, (pss_cons (ps_for PassesOwn.never rfl (pi_tup (pv 1)) (pg_name (i := 2) sc_l_at.nd rfl (Or.inl rfl))
    (pss_one (ps_set (i := 0) sc_l_at.nd rfl (Or.inl rfl) (pe_ix (ixK_seq (K := K)) (pv 0) (pv 2) (fun _ _ => rfl)))))
  (pss_one (ps_ret (pv 0)))), ?_⟩
    refine ⟨_, rfl, a, rfl, ⟨_, .inl (.inl (sF _ _ ha))⟩, for_it (walk_tup (K := K) (a := a) (xs := p.map fun i => V.int (i : Nat))) (fun i σ H' => H' = H ∧ ∃ u v2 e, σ = [some u, some (.ref a), v2] ∧ Tp F0 u e ∧ partAt e (p.drop i) = some c) ⟨rfl, v, _, d, rfl, hv, hp⟩ (fun i σ H' _ z => by rw [z.1]; exact .inl (.inl (sF _ _ ha))) ?_ ?_⟩
    · rintro i x σ H2 H3 hi ⟨rfl, u, v2, e, rfl, hu, he⟩ ⟨rfl, hx⟩
      rw [List.getElem?_map] at hx
      obtain ⟨j, hj, rfl⟩ := Option.map_eq_some_iff.mp hx
      have dr : p.drop i = j :: p.drop (i + 1) := by
        obtain ⟨hl, q⟩ := List.getElem?_eq_some_iff.mp hj
        rw [← q]
        exact List.drop_eq_getElem_cons hl
      rw [dr] at he
      have he2 : (if isRowD e = true then (match (partsD e)[j]? with | some c => partAt c (p.drop (i + 1)) | none => none) else none) = some c := he
      cases er : isRowD e with
      | false =>
        rw [er] at he2
        cases he2
      | true =>
        rw [er, if_pos rfl] at he2
        cases ej : (partsD e)[j]? with
        | none =>
          rw [ej] at he2
          cases he2
        | some e3 =>
          rw [ej] at he2
          obtain ⟨b, xs, rfl, hx, hxs⟩ := hu.row er
          obtain ⟨y, hy, ty⟩ := hxs.to ej
          exact ⟨_, rfl, _, rfl, ix_sq (rw_sq (hx.same sF)) (atI_nat hy) ⟨rfl, y, _, e3, rfl, ty, he2⟩⟩
    · rintro σ H2 ⟨rfl, u, v2, e, rfl, hu, he⟩
      rw [List.length_map, List.drop_length] at he
      cases he
      exact ⟨_, rfl, k u hu⟩
/-- another part at a path -/
def spWith (n : Nat) : Sp := fun vs H Q _ => ∃ (F : Hp) (v y : V) (a : Addr) (d c e : PyData) (p : List Nat), vs = [v, .ref a, y] ∧ Same F H ∧ Tp F v d ∧ F a = some (.tup (p.map fun i => V.int (i : Nat))) ∧ Tp F y e ∧ partAt d p = some c ∧ p.length < n ∧ siz d ≤ 100000 ∧ p.length ≤ 1000 ∧
  ∀ u F' H', Grow F H F' H' → Tp F' u (withD d p e) → Q u H'
abbrev s_l_with : Stmt := topS 79
abbrev sc_l_withN : List Str := ["_law_thing", "_law_path", "_law_part", "_law_row_here"]
abbrev ps_l_with : List Str := ["_law_thing", "_law_path", "_law_part"]
theorem sc_l_with : FnScope sc_l_withN ps_l_with (defScope s_l_with) := ⟨rfl, rfl, rfl, by decide +kernel, rfl, by decide +kernel, by decide +kernel⟩
theorem ok_l_with {f : Addr} {fd : FuncData} (F : Fun K "_law_with" "_law_with" s_l_with f fd) (T : Txt K mg CS) (hm : mg "_law_with" = some (.ref f)) (hb : Binds K fd ps_l_with []) : ∀ n, FnOk P w K mg base CX0 n f fd ps_l_with (spWith n)
  | 0 => fn_no fun vs H Q E h => by
    obtain ⟨_, _, _, _, _, _, _, p, _, _, _, _, _, _, hd, _⟩ := h
    exact absurd hd (Nat.not_lt_zero _)
  | n + 1 => by
    have D_l_with : Df P w K mg base "_law_with" n ps_l_with (spWith n) := ⟨f, fd, ok_l_with F T hm hb n, hm, F.kp, hb⟩
    refine F.ok sc_l_with (fun vs H Q E h => ?_) (fun cdv A outer s H vs Q E hr h => ?_)
    · obtain ⟨_, _, _, _, _, _, _, _, rfl, _⟩ := h
      rfl
    · obtain ⟨F0, v, y, a, d, c, e, p, rfl, sF, hv, ha, hy, hp, hn, hz, hl, k⟩ := h
      refine ⟨_, (pss_cons (ps_if (pt_cmpR op_eq (pe_callB call_len_seq (by rfl) T.n_len (by decide +kernel) (pa_cons (pv 1) pa_nil)) pe_int (nomark _))
    (pss_one (ps_ret (pv 2)))
    pss_nil)
  (pss_cons (ps_set (i := 3) sc_l_with.nd rfl (Or.inl rfl) (pe_callTy call_list_of (by rfl) T.n_list (by decide +kernel) (pa_cons (pv 0) pa_nil)))
  (pss_cons (ps_asg (pe_d D_l_with hr (pa_cons (pe_ix ix_list (pv 3) (pe_ix ix_tup (pv 1) pe_int (fun _ _ => rfl)) (fun _ _ => rfl)) (pa_cons (pe_slice sl_tupA (pv 1) (po_some pe_int) po_none) (pa_cons (pv 2) pa_nil)))) (pg_sub (pv 3) (pe_ix ix_tup (pv 1) pe_int (fun _ _ => rfl)) set_list))
  (pss_cons (ps_if (pt_val (pe_callB call_isi (by rfl) T.n_isinstance (by decide +kernel) (pa_cons (pv 0) (pa_cons (pe_bltn (v := .ty "tuple") (by rfl) T.n_tuple (by decide +kernel) rfl) pa_nil))))
    (pss_one (ps_ret (pe_callTy call_tuple_of (by rfl) T.n_tuple (by decide +kernel) (pa_cons (pv 3) pa_nil))))
    pss_nil)
  (pss_one (ps_ret (pv 3))))))), ?_⟩
      have haH := sF _ _ ha
      refine ⟨_, rfl, a, _, rfl, .inr (.inl (.inl haH)), rfl, _, rfl, ?_⟩
      cases p with
      | nil => exact ifT (decide_eq_true rfl) ⟨_, rfl, k y F0 H (Grow.refl sF) hy⟩
      | cons j p =>
        have he2 : (if isRowD d = true then (match (partsD d)[j]? with | some c => partAt c p | none => none) else none) = some c := hp
        have er : isRowD d = true := by
          cases er : isRowD d with
          | true => rfl
          | false =>
            rw [er] at he2
            cases he2
        rw [er, if_pos rfl] at he2
        cases ej : (partsD d)[j]? with
        | none =>
          rw [ej] at he2
          cases he2
        | some e3 =>
          rw [ej] at he2
          have wd : withD d (j :: p) e = likeD d ((partsD d).set j (withD e3 p e)) := by
            show (match (partsD d)[j]? with | some e2 => likeD d ((partsD d).set j (withD e2 p e)) | none => d) = _
            rw [ej]
          rw [wd] at k
          obtain ⟨b, xs, rfl, hx, hxs⟩ := hv.row er
          obtain ⟨x, hxj, tx⟩ := hxs.to ej
          have lx := hxs.len
          rw [siz_row er] at hz
          have ls := siz_len (partsD d)
          have y2 := siz_mem (List.mem_of_getElem? ej)
          have hl2 : p.length + 1 ≤ 1000 := hl
          have hn2 : p.length + 1 < n + 1 := hn
          refine ifF (decide_eq_false fun z => by cases z) ?_
          refine ⟨_, rfl, b, xs, rfl, rw_sq (hx.same sF), fun L hL => ?_⟩
          have ac := (Acc.start sF hL).add xs
          rw [upd_upd] at ac
          generalize upd H L (.lst xs) = H1 at *
          have ha1 := ac.g.fh _ _ ha
          have ix0 : atI ((j :: p).map fun i => V.int (i : Nat)) 0 = some (.int (j : Nat)) := atI_nat (j := 0) rfl
          refine ⟨_, rfl, _, rfl, a, _, 0, _, rfl, rfl, .inl (.inl ha1), ix0, L, xs, j, x, rfl, rfl, .inl (.inl ac.at_), atI_nat hxj, ?_⟩
          refine ⟨_, rfl, _, rfl, a, _, rfl, .inl (.inl ha1), fun z => ?_, fun _ q hq => ?_⟩
          · have q : HT.sIx ((j :: p).map fun i => V.int (i : Nat)).length 0 (some ((1 : Nat) : Int)) = 0 := z.1
            rw [HT.sIx_nat, List.length_map, List.length_cons] at q
            omega
          · have ec : cutV ((j :: p).map fun i => V.int (i : Nat)) (some 1) none = p.map fun i => V.int (i : Nat) := by
              have q := cutV_from ((j :: p).map fun i => V.int (i : Nat)) 1 (by rw [List.length_map, List.length_cons]; omega)
              rw [show ((1 : Nat) : Int) = 1 from rfl] at q
              rw [q]
              rfl
            rw [ec]
            have g1 := Grow.new ac.g.fh (.tup (p.map fun i => V.int (i : Nat))) hq
            have ac2 := ac.then g1
            refine ⟨_, rfl, _, x, y, q, e3, c, e, p, rfl, ac2.g.fh, tx.same ac2.g.ff, upd_same, hy.same ac2.g.ff, he2, by omega, by omega, by omega, fun u F2 H2 g tu => ?_⟩
            have ac3 := ac2.then g
            have ha3 := ac3.g.fh _ _ (ac3.g.ff _ _ ha)
            have hj : j < xs.length := (List.getElem?_eq_some_iff.mp hxj).1
            have ixj : ixN xs.length ((j : Nat) : Int) = some j := by
              unfold ixN
              rw [if_pos (by omega), if_pos (by omega), Int.toNat_natCast]
            refine ⟨_, rfl, _, rfl, a, _, 0, _, rfl, rfl, .inl (.inl ha3), ix0, L, xs, j, j, rfl, rfl, ac3.at_, ixj, ?_⟩
            have ac4 := ac3.add (xs.set j u)
            have ts : TpAll F2 (xs.set j u) ((partsD d).set j (withD e3 p e)) := (hxs.same (g1.ff.trans g.ff)).set j tu
            generalize upd H2 L (.lst (xs.set j u)) = H3 at *
            refine ⟨_, rfl, _, _, _, _, _, rfl, .ty _, (hv.same (ac4.g.ff.trans ac4.g.fh)).ty, kit_ty (kit_d (by simp)), _, rfl, ?_⟩
            cases d with
            | tuple ds =>
              exact iteT ⟨_, rfl, L, _, rfl, .inl ⟨.inl (.inl ac4.at_), fun l hl => k _ _ _ (ac4.g.trans (Grow.new ac4.g.fh _ hl)) (.tup upd_same (ts.same (same_new _ (ac4.g.fh.free hl))))⟩⟩
            | list ds => exact iteF ⟨_, rfl, k _ _ _ ac4.keep (.lst upd_same (ts.same (same_new _ ac4.no)))⟩
            | _ => cases er
/-- how deep a tree is -/
def spDeep (n : Nat) : Sp := fun vs H Q _ => ∃ (v : V) (d : PyData), vs = [v] ∧ Tp H v d ∧ dep d < n ∧ siz d ≤ 100000 ∧ ∀ H', Same H H' → Q (.int (dep d : Nat)) H'
theorem depL_max : ∀ {ds : List PyData} {m : Int}, (m = 0 ∨ ∃ d ∈ ds, m = (dep d : Nat)) → 0 ≤ m → (∀ d ∈ ds, ((dep d : Nat) : Int) ≤ m) → m = (depL ds : Nat)
  | [], m, h, _, _ => by
    rcases h with h | ⟨_, m, _⟩
    · exact h
    · cases m
  | d :: ds, m, h, h0, h1 => by
    have z : (((d :: ds).map dep).foldr max 0 : Nat) = depL (d :: ds) := by
      have go : ∀ es : List PyData, (es.map dep).foldr max 0 = depL es := fun es => by
        induction es with
        | nil => rfl
        | cons e es ih =>
          show max (dep e) ((es.map dep).foldr max 0) = max (dep e) (depL es)
          rw [ih]
      exact go _
    have up : ((depL (d :: ds) : Nat) : Int) ≤ m := by
      have go : ∀ es : List PyData, (∀ e ∈ es, ((dep e : Nat) : Int) ≤ m) → ((depL es : Nat) : Int) ≤ m := fun es => by
        induction es with
        | nil => exact fun _ => h0
        | cons e es ih =>
          intro q
          have q1 := q e List.mem_cons_self
          have q2 := ih fun x mx => q x (List.mem_cons_of_mem _ mx)
          show ((max (dep e) (depL es) : Nat) : Int) ≤ m
          omega
      exact go _ h1
    rcases h with h | ⟨e, me, h⟩
    · omega
    · have q := dep_mem me
      omega
abbrev s_l_deep : Stmt := topS 80
abbrev sc_l_deepN : List Str := ["_law_thing", "_law_part"]
abbrev ps_l_deep : List Str := ["_law_thing"]
theorem sc_l_deep : FnScope sc_l_deepN ps_l_deep (defScope s_l_deep) := ⟨rfl, rfl, rfl, by decide +kernel, rfl, by decide +kernel, by decide +kernel⟩
theorem ok_l_deep {f : Addr} {fd : FuncData} (F : Fun K "_law_deep" "_law_deep" s_l_deep f fd) (T : Txt K mg CS) (hm : mg "_law_deep" = some (.ref f)) (hb : Binds K fd ps_l_deep []) : ∀ n, FnOk P w K mg base CX0 n f fd ps_l_deep (spDeep n)
  | 0 => fn_no fun vs H Q E h => by
    obtain ⟨_, d, _, _, hd, _⟩ := h
    exact absurd hd (Nat.not_lt_zero _)
  | n + 1 => by
    have D_l_deep : Df P w K mg base "_law_deep" n ps_l_deep (spDeep n) := ⟨f, fd, ok_l_deep F T hm hb n, hm, F.kp, hb⟩
    refine F.ok sc_l_deep (fun vs H Q E h => ?_) (fun cdv A outer s H vs Q E hr h => ?_)
    · obtain ⟨_, _, rfl, _⟩ := h
      rfl
    · obtain ⟨v, d, rfl, hv, hd, hz, k⟩ := h
      refine ⟨_, (pss_cons (ps_if (pt_val (pe_callB call_isiT (by rfl) T.n_isinstance (by decide +kernel) (pa_cons (pv 0) (pa_cons (pe_tup (pa_cons (pe_bltn (v := .ty "list") (by rfl) T.n_list (by decide +kernel) rfl) (pa_cons (pe_bltn (v := .ty "tuple") (by rfl) T.n_tuple (by decide +kernel) rfl) pa_nil))) pa_nil))))
    (pss_one (ps_ret (pe_op op_add pe_int (pe_callB (cr_max (by rfl)) (by rfl) T.n_max (by decide +kernel) (pa_cons (pe_op op_cat (pe_lst (pa_cons pe_int pa_nil)) (pe_lc (own := [("_law_part", 1)]) (g := gName 1) (tt := tYes) (by rfl) sc_l_deep.nd (pi_any (pv 0)) (blkOk_by (own := [("_law_part", 1)]) (N := sc_l_deepN) (sc := defScope s_l_deep) (by decide +kernel)) (fun _ _ _ _ _ => pg_name (i := 1) sc_l_deep.nd rfl (Or.inl rfl)) (fun _ _ _ _ _ => pts_nil) (fun _ _ _ _ _ => (pe_d D_l_deep hr (pa_cons (pv 1) pa_nil))))) pa_nil)))))
    pss_nil)
  (pss_one (ps_ret (pe_op op_mul pe_int (pe_callTy call_int1 (by rfl) T.n_int (by decide +kernel) (pa_cons (pe_callB call_isi (by rfl) T.n_isinstance (by decide +kernel) (pa_cons (pv 0) (pa_cons (pe_bltn (v := .ty "dict") (by rfl) T.n_dict (by decide +kernel) rfl) pa_nil))) pa_nil)))))), ?_⟩
      refine ⟨_, rfl, (by show 2 ≤ sizeLine; decide), fun tp htp => ?_⟩
      have s1 : Same H (upd H tp (.tup [.ty "list", .ty "tuple"])) := same_new _ htp
      have hv1 := hv.same s1
      have up : (upd H tp (.tup [.ty "list", .ty "tuple"])) tp = some (.tup [.ty "list", .ty "tuple"]) := upd_same
      generalize upd H tp (.tup [.ty "list", .ty "tuple"]) = H1 at *
      refine ⟨_, tp, _, _, _, _, rfl, up, clsLT, hv1.ty, kitAny_row, _, rfl, ?_⟩
      cases er : isRowD d with
      | false =>
        refine iteF ⟨_, rfl, _, _, _, _, _, rfl, .ty _, hv1.ty, kit_ty (kit_d (by simp)), .inr ⟨isD "dict" d, rfl, _, _, rfl, rfl, .inl ⟨by decide, by decide⟩, ?_⟩⟩
        have q := k _ s1
        cases d <;> first | exact q | cases er
      | true =>
        obtain ⟨c, xs, rfl, hx, hxs⟩ := hv1.row er
        rw [dep_row er] at hd k
        rw [siz_row er] at hz
        have ls := siz_len (partsD d)
        refine iteT ⟨(by show 1 ≤ sizeLine; decide), fun l0 hl0 => ?_⟩
        have s2 := same_new (.lst [.int 0]) hl0
        have e0 : (upd H1 l0 (.lst [.int 0])) l0 = some (.lst [.int 0]) := upd_same
        generalize upd H1 l0 (.lst [.int 0]) = H2 at *
        refine ⟨_, rfl, c, xs, rfl, any_of (K := K) (rw_sq (hx.same s2)) (Same.refl _) fun J G gm wk => (fun D hD => ?_)⟩
        refine lc_it wk (fun i H' => Same H2 H' ∧ H' D = some (.lst (((partsD d).take i).map fun e => V.int (dep e : Nat)))) ⟨same_new _ hD, by rw [upd_same]; rfl⟩ (fun i H' _ z => gm H' z.1) ?_ ?_
        · rintro i x H3 H4 hi ⟨s3, d3⟩ ⟨rfl, hxi⟩
          obtain ⟨e, he, tv⟩ := hxs.at hxi
          have me := List.mem_of_getElem? he
          have y1 := dep_mem me
          have y2 := siz_mem me
          refine ⟨rfl, _, rfl, x, e, rfl, tv.same (s2.trans s3), by omega, by omega, fun H5 s5 => ?_⟩
          refine ⟨_, s5 _ _ d3, take_lt _ (by omega), same_put (s3.trans s5) _ hD, ?_⟩
          rw [upd_same, map_take _ he]
        · rintro H3 ⟨s3, d3⟩
          rw [hxs.len, List.take_length] at d3
          refine ⟨l0, D, _, _, rfl, rfl, s3 _ _ e0, d3, by rw [List.length_map]; exact Nat.le_of_lt (Nat.lt_of_le_of_lt (show 1 + (partsD d).length ≤ 200000 by omega) (by decide)), fun p hp => ?_⟩
          refine ⟨p, 0 :: (partsD d).map fun e => ((dep e : Nat) : Int), rfl, .inl (.inl (by rw [upd_same, List.map_cons, List.map_map]; rfl)), by simp, fun m mm hi => ⟨_, _, rfl, rfl, ?_⟩⟩
          have em : m = (depL (partsD d) : Nat) := by
            refine depL_max ?_ (hi 0 (by simp)) fun e me => hi _ (List.mem_cons_of_mem _ (List.mem_map.mpr ⟨e, me, rfl⟩))
            rcases List.mem_cons.mp mm with q | q
            · exact .inl q
            · obtain ⟨e, me, rfl⟩ := List.mem_map.mp q
              exact .inr ⟨e, me, rfl⟩
          rw [em]
          rw [show ((1 + depL (partsD d) : Nat) : Int) = 1 + ((depL (partsD d) : Nat) : Int) by omega] at k
          exact k _ (s1.trans (s2.trans (s3.trans (same_new _ hp))))
end
end Fm

/-! ## K08J -/
set_option Elab.async false
set_option maxRecDepth 100000
set_option maxHeartbeats 4000000
namespace Fm
open PySem L2
/-- a small tree -/
def Od (F : Hp) (v : V) : Prop := ∃ d, Tp F v d ∧ dep d ≤ 2 ∧ siz d ≤ 10 ∧ mst d ≤ 9
theorem Od.same {F F' : Hp} {v : V} (h : Od F v) (s : Same F F') : Od F' v := by
  obtain ⟨d, h1, h2⟩ := h
  exact ⟨d, h1.same s, h2⟩
theorem od_s {F : Hp} (s : Str) (h : s.length ≤ 9) : Od F (.str s) := ⟨_, .str s, Nat.zero_le _, by show 1 ≤ 10; decide, h⟩
theorem od_i {F : Hp} (i : Int) : Od F (.int i) := ⟨_, .int i, Nat.zero_le _, by show 1 ≤ 10; decide, Nat.zero_le _⟩
theorem od_b {F : Hp} (i : Bool) : Od F (.bl i) := ⟨_, .bl i, Nat.zero_le _, by show 1 ≤ 10; decide, Nat.zero_le _⟩
/-- one object more, under one name -/
theorem bag_more {F H : Hp} {b p : Addr} {o : HO} (B : Bag F H b) (hp : H p = none) : ∃ F', Bag F' (upd H p o) b ∧ Same F F' ∧ F' p = some o ∧ F p = none :=
  ⟨upd F p o, B.new o hp, fun a u e => by rw [upd_ne (ne_of_none e (B.fh.free hp))]; exact e, upd_same, B.fh.free hp⟩
section
variable {P : Program} {w : World} {K : PySem.W.Frag} {mg : Str → Option Value} {base : Heap} {CS : Addr}
def spOdd : Sp := fun vs H Q _ => ∃ (F : Hp) (b : Addr), vs = [.ref b] ∧ Bag F H b ∧ ∀ (v : V) (F' H' : Hp), Bag F' H' b → Same F F' → Od F' v → Q v H'
abbrev s_l_odd : Stmt := topS 81
abbrev sc_l_oddN : List Str := ["_law_bag_here", "_law_number", "_law_odd_here"]
abbrev ps_l_odd : List Str := ["_law_bag_here"]
theorem sc_l_odd : FnScope sc_l_oddN ps_l_odd (defScope s_l_odd) := ⟨rfl, rfl, rfl, by decide +kernel, rfl, by decide +kernel, by decide +kernel⟩
theorem ok_l_odd {f : Addr} {fd : FuncData} (F : Fun K "_law_odd" "_law_odd" s_l_odd f fd) (T : Txt K mg CS) (D_l_pick : Df P w K mg base "_law_pick" 1 ps_l_pick spPick) : FnOk P w K mg base CX0 2 f fd ps_l_odd spOdd := by
  refine F.ok sc_l_odd (fun vs H Q E h => ?_) (fun cdv A outer s H vs Q E hr h => ?_)
  · obtain ⟨_, _, rfl, _⟩ := h
    rfl
  · obtain ⟨F0, b, rfl, B, k⟩ := h
    refine ⟨_, (pss_cons (ps_set (i := 1) sc_l_odd.nd rfl (Or.inl rfl) (pe_op op_sub (pe_d D_l_pick (hr.mono (by decide)) (pa_cons (pv 0) (pa_cons pe_int pa_nil))) pe_int))
  (pss_cons (ps_set (i := 2) sc_l_odd.nd rfl (Or.inl rfl) (pe_lst (pa_cons pe_non (pa_cons pe_bl (pa_cons pe_bl (pa_cons pe_str (pa_cons pe_str (pa_cons pe_str (pa_cons pe_str (pa_cons pe_str (pa_cons pe_str (pa_cons (pe_tup pa_nil) (pa_cons (pe_lst pa_nil) (pa_cons pe_dnewK (pa_cons (pe_disp (pps_cons pe_str (pe_lst (pa_cons pe_int pa_nil)) pps_nil) (by rfl) (by rfl) (fun z => by cases z) (by decide)) (pa_cons (pe_tup (pa_cons pe_str (pa_cons pe_str (pa_cons pe_str pa_nil)))) (pa_cons (pe_lst (pa_cons pe_int (pa_cons pe_int pa_nil))) pa_nil)))))))))))))))))
  (pss_cons (ps_expr (pe_bm PySem.F.plainAttrs_list PySem.F.slot_list_extend PySem.F.type_list_extend mt_extend (pv 2) (pa_cons (pe_lst (pa_cons (pe_op op_add (pe_op op_pow pe_int pe_int) pe_int) (pa_cons (pe_op op_sub (pe_op op_sub pe_int (pe_op op_pow pe_int pe_int)) pe_int) (pa_cons (pe_op op_add (pe_op op_pow pe_int pe_int) (pv 1)) (pa_cons (pv 1) (pa_cons (pe_tup (pa_cons (pv 1) (pa_cons (pe_tup pa_nil) pa_nil))) (pa_cons (pe_lst (pa_cons (pe_lst (pa_cons (pv 1) pa_nil)) pa_nil)) (pa_cons (pe_tup (pa_cons pe_str pa_nil)) (pa_cons pe_str pa_nil))))))))) pa_nil)))
  (pss_one (ps_ret (pe_ix ix_list (pv 2) (pe_d D_l_pick (hr.mono (by decide)) (pa_cons (pv 0) (pa_cons (pe_callB call_len_seq (by rfl) T.n_len (by decide +kernel) (pa_cons (pv 2) pa_nil)) pa_nil))) (fun _ _ => rfl))))))), ?_⟩
    refine ⟨_, rfl, F0, b, 9, rfl, by decide, by decide, B, fun r G0 r0 r1 C0 => ⟨_, _, rfl, rfl, ?_⟩⟩
    refine ⟨Nat.zero_le _, fun p1 h1 => ?_⟩
    obtain ⟨F1, C1, s1, e1, _⟩ := bag_more (o := .tup []) C0 h1
    generalize upd G0 p1 (.tup []) = G1 at *
    refine ⟨Nat.zero_le _, fun p2 h2 => ?_⟩
    obtain ⟨F2, C2, s2, e2, _⟩ := bag_more (o := .lst []) C1 h2
    generalize upd G1 p2 (.lst []) = G2 at *
    intro p3 h3
    obtain ⟨F3, C3, s3, e3, _⟩ := bag_more (o := .dK []) C2 h3
    generalize upd G2 p3 (.dK []) = G3 at *
    intro p4 h4
    obtain ⟨F4, C4, s4, e4, n4⟩ := bag_more (o := .dK []) C3 h4
    generalize upd G3 p4 (.dK []) = G4 at *
    refine ⟨(by show 1 ≤ sizeLine; decide), fun p5 h5 => ?_⟩
    obtain ⟨F5, C5, s5, e5, _⟩ := bag_more (o := .lst [.int 1]) C4 h5
    generalize upd G4 p5 (.lst [.int 1]) = G5 at *
    refine ⟨C5.fh _ _ (s5 _ _ e4), [(Sum.inr "a", .ref p5)], rfl, (by show 1 ≤ 15; decide), ?_⟩
    obtain ⟨kv, hkv⟩ : ∃ kv, kv = mergeK [] [((Sum.inr "a" : Key), V.ref p5)] := ⟨_, rfl⟩
    rw [← hkv]
    have C6 := C5.put (.dK kv) (s5 _ _ e4)
    have s6 : Same F3 (upd F5 p4 (.dK kv)) := same_put (s4.trans s5) _ n4
    have e6 : (upd F5 p4 (.dK kv)) p4 = some (.dK kv) := upd_same
    have e56 : (upd F5 p4 (.dK kv)) p5 = some (.lst [.int 1]) := by rw [upd_ne (Ne.symm (ne_of_none (C4.fh _ _ e4) h5))]; exact e5
    generalize upd F5 p4 (.dK kv) = F6 at *
    generalize upd G5 p4 (.dK kv) = G6 at *
    refine ⟨(by show 3 ≤ sizeLine; decide), fun p7 h7 => ?_⟩
    obtain ⟨F7, C7, s7, e7, _⟩ := bag_more (o := .tup [.str "of", .str "a", .str "b"]) C6 h7
    generalize upd G6 p7 (.tup [.str "of", .str "a", .str "b"]) = G7 at *
    refine ⟨(by show 2 ≤ sizeLine; decide), fun p8 h8 => ?_⟩
    obtain ⟨F8, C8, s8, e8, _⟩ := bag_more (o := .lst [.int 1, .int 2]) C7 h8
    generalize upd G7 p8 (.lst [.int 1, .int 2]) = G8 at *
    refine ⟨(by show 15 ≤ sizeLine; decide), fun L hL => ?_⟩
    have kn1 : ∀ v ∈ ([.non, .bl true, .bl false, .str "", .str "Ab", .str "a b", .str "abcdefghi", .str "a_b", .str "z1", .ref p1, .ref p2, .ref p3, .ref p4, .ref p7, .ref p8] : List V), Od F8 v := by
      have t3 := (s6.trans s7).trans s8
      intro v m
      simp only [List.mem_cons, List.not_mem_nil, or_false] at m
      rcases m with rfl | rfl | rfl | rfl | rfl | rfl | rfl | rfl | rfl | rfl | rfl | rfl | rfl | rfl | rfl
      · exact ⟨_, .non, Nat.zero_le _, by decide, Nat.zero_le _⟩
      · exact od_b _
      · exact od_b _
      · exact od_s _ (by decide)
      · exact od_s _ (by decide)
      · exact od_s _ (by decide)
      · exact od_s _ (by decide)
      · exact od_s _ (by decide)
      · exact od_s _ (by decide)
      · exact ⟨.tuple [], .tup (t3 _ _ (s3 _ _ (s2 _ _ e1))) .nil, by decide, by decide, by decide⟩
      · exact ⟨.list [], .lst (t3 _ _ (s3 _ _ e2)) .nil, by decide, by decide, by decide⟩
      · exact ⟨dictD false, .dct false (t3 _ _ e3), by decide, by decide, by decide⟩
      · exact ⟨dictD true, .dct true (show ∃ l, _ = _ ∧ _ = _ from ⟨p5, by rw [s8 _ _ (s7 _ _ e6), hkv]; rfl, s8 _ _ (s7 _ _ e56)⟩), by decide, by decide, by decide⟩
      · exact ⟨.tuple [.str "of", .str "a", .str "b"], .tup (s8 _ _ e7) (.cons (.str _) (.cons (.str _) (.cons (.str _) .nil))), by decide, by decide, by decide⟩
      · exact ⟨.list [.int 1, .int 2], .lst e8 (.cons (.int _) (.cons (.int _) .nil)), by decide, by decide, by decide⟩
    generalize hxs : ([.non, .bl true, .bl false, .str "", .str "Ab", .str "a b", .str "abcdefghi", .str "a_b", .str "z1", .ref p1, .ref p2, .ref p3, .ref p4, .ref p7, .ref p8] : List V) = xs at *
    have lxs : xs.length = 15 := by rw [← hxs]; rfl
    obtain ⟨F9, C9, s9, e9, n9⟩ := bag_more (o := .lst xs) C8 hL
    have sAll : Same F0 F8 := s1.trans (s2.trans (s3.trans (s6.trans (s7.trans s8))))
    generalize upd G8 L (.lst xs) = G9 at *
    refine ⟨_, rfl, .inl ⟨rfl, _, .inl (.inl (C9.fh _ _ e9))⟩, ?_⟩
    refine ⟨_, _, rfl, rfl, ⟨by decide, by decide, by decide⟩, _, _, rfl, rfl, _, _, rfl, rfl, ⟨by decide, by decide, by decide⟩, _, _, rfl, rfl, _, _, rfl, rfl, _, _, rfl, rfl, ⟨by decide, by decide, by decide⟩, _, rfl, _, _, rfl, rfl, _, rfl, _, rfl, ?_⟩
    refine ⟨Nat.zero_le _, fun p10 h10 => ?_⟩
    obtain ⟨F10, C10, s10, e10, _⟩ := bag_more (o := .tup []) C9 h10
    generalize upd G9 p10 (.tup []) = G10 at *
    refine ⟨(by show 2 ≤ sizeLine; decide), fun p11 h11 => ?_⟩
    obtain ⟨F11, C11, s11, e11, _⟩ := bag_more (o := .tup [.int (r - 4), .ref p10]) C10 h11
    generalize upd G10 p11 (.tup [.int (r - 4), .ref p10]) = G11 at *
    refine ⟨_, rfl, ?_⟩
    refine ⟨(by show 1 ≤ sizeLine; decide), fun p12 h12 => ?_⟩
    obtain ⟨F12, C12, s12, e12, _⟩ := bag_more (o := .lst [.int (r - 4)]) C11 h12
    generalize upd G11 p12 (.lst [.int (r - 4)]) = G12 at *
    refine ⟨(by show 1 ≤ sizeLine; decide), fun p13 h13 => ?_⟩
    obtain ⟨F13, C13, s13, e13, _⟩ := bag_more (o := .lst [.ref p12]) C12 h13
    generalize upd G12 p13 (.lst [.ref p12]) = G13 at *
    refine ⟨(by show 1 ≤ sizeLine; decide), fun p14 h14 => ?_⟩
    obtain ⟨F14, C14, s14, e14, _⟩ := bag_more (o := .tup [.str "scan"]) C13 h14
    generalize upd G13 p14 (.tup [.str "scan"]) = G14 at *
    refine ⟨(by show 8 ≤ sizeLine; decide), fun M hM => ?_⟩
    have n10 : p10 ≠ L := Ne.symm (ne_of_none (C9.fh _ _ e9) h10)
    have n11 : p11 ≠ L := Ne.symm (ne_of_none (C10.fh _ _ (s10 _ _ e9)) h11)
    have n12 : p12 ≠ L := Ne.symm (ne_of_none (C11.fh _ _ (s11 _ _ (s10 _ _ e9))) h12)
    have n13 : p13 ≠ L := Ne.symm (ne_of_none (C12.fh _ _ (s12 _ _ (s11 _ _ (s10 _ _ e9)))) h13)
    have n14 : p14 ≠ L := Ne.symm (ne_of_none (C13.fh _ _ (s13 _ _ (s12 _ _ (s11 _ _ (s10 _ _ e9))))) h14)
    have kn2 : ∀ v ∈ ([.int (10 ^ 9 + 1), .int (0 - 10 ^ 9 - 1), .int (10 ^ 40 + (r - 4)), .int (r - 4), .ref p11, .ref p13, .ref p14, .str "none"] : List V), Od (cut F14 L) v := by
      intro v m
      simp only [List.mem_cons, List.not_mem_nil, or_false] at m
      rcases m with rfl | rfl | rfl | rfl | rfl | rfl | rfl | rfl
      · exact od_i _
      · exact od_i _
      · exact od_i _
      · exact od_i _
      · exact ⟨.tuple [.int (r - 4), .tuple []], .tup (by rw [cut_ne n11]; exact s14 _ _ (s13 _ _ (s12 _ _ e11))) (.cons (.int _) (.cons (.tup (by rw [cut_ne n10]; exact s14 _ _ (s13 _ _ (s12 _ _ (s11 _ _ e10)))) .nil) .nil)), by show 1 + max 0 (max (1 + 0) 0) ≤ 2; decide, by show 1 + (1 + ((1 + 0) + 0)) ≤ 10; decide, by show max 0 (max 0 0) ≤ 9; decide⟩
      · exact ⟨.list [.list [.int (r - 4)]], .lst (by rw [cut_ne n13]; exact s14 _ _ e13) (.cons (.lst (by rw [cut_ne n12]; exact s14 _ _ (s13 _ _ e12)) (.cons (.int _) .nil)) .nil), by show 1 + max (1 + max 0 0) 0 ≤ 2; decide, by show 1 + ((1 + (1 + 0)) + 0) ≤ 10; decide, by show max (max 0 0) 0 ≤ 9; decide⟩
      · exact ⟨.tuple [.str "scan"], .tup (by rw [cut_ne n14]; exact e14) (.cons (.str _) .nil), by decide, by decide, by decide⟩
      · exact od_s _ (by decide)
    have t9 : Same F9 F14 := s10.trans (s11.trans (s12.trans (s13.trans s14)))
    obtain ⟨F15, C15, s15, e15, _⟩ := bag_more (o := .lst [.int (10 ^ 9 + 1), .int (0 - 10 ^ 9 - 1), .int (10 ^ 40 + (r - 4)), .int (r - 4), .ref p11, .ref p13, .ref p14, .str "none"]) C14 hM
    obtain ⟨ys, hys⟩ : ∃ ys : List V, ys = [.int (10 ^ 9 + 1), .int (0 - 10 ^ 9 - 1), .int (10 ^ 40 + (r - 4)), .int (r - 4), .ref p11, .ref p13, .ref p14, .str "none"] := ⟨_, rfl⟩
    have lys : ys.length = 8 := by rw [hys]; rfl
    rw [← hys] at kn2 e15 C15
    refine ⟨L, M, xs, ys, rfl, rfl, ?_, ?_, by rw [lxs, lys]; decide, ?_⟩
    · have z := C15.fh _ _ (s15 _ _ (t9 _ _ e9))
      rw [hys] at z
      exact z
    · have z := C15.fh _ _ e15
      rw [hys] at z
      rw [hys]
      exact z
    have C16 := C15.put (.lst (xs ++ ys)) (s15 _ _ (t9 _ _ e9))
    have t8 : Same F8 (upd F15 L (.lst (xs ++ ys))) := same_put (s9.trans (t9.trans s15)) _ n9
    have all : ∀ v ∈ xs ++ ys, Od (upd F15 L (.lst (xs ++ ys))) v := fun v m => by
      rcases List.mem_append.mp m with m | m
      · exact (kn1 v m).same t8
      · exact (kn2 v m).same (same_put (cut_sub.trans s15) _ cut_at)
    have eL : (upd F15 L (.lst (xs ++ ys))) L = some (.lst (xs ++ ys)) := upd_same
    have lz : (xs ++ ys).length = 23 := by rw [List.length_append, lxs, lys]
    refine ⟨_, rfl, _, rfl, _, rfl, L, xs ++ ys, rfl, .inl (.inl (.inl upd_same)), _, b, _, rfl, by rw [lz]; decide, by rw [lz]; decide, (by rw [hys] at C16; rw [hys]; exact C16), fun q H' q0 q1 CE => ?_⟩
    rw [← hys] at CE
    obtain ⟨v, hv, hm⟩ := at_mem (xs := xs ++ ys) q0 q1
    refine ⟨L, _, _, _, rfl, rfl, .inl (.inl (CE.fh _ _ eL)), hv, ?_⟩
    exact k v _ H' CE (sAll.trans t8) (all v hm)
end
end Fm

/-! ## K08K -/
set_option Elab.async false
set_option maxRecDepth 100000
set_option maxHeartbeats 4000000
namespace Fm
open PySem L2
theorem depL_sub : ∀ {es ds : List PyData}, (∀ c ∈ es, c ∈ ds) → depL es ≤ depL ds
  | [], _, _ => Nat.zero_le _
  | e :: es, ds, h => Nat.max_le.mpr ⟨dep_mem (h e List.mem_cons_self), depL_sub fun c m => h c (List.mem_cons_of_mem _ m)⟩
theorem mstL_sub : ∀ {es ds : List PyData}, (∀ c ∈ es, c ∈ ds) → mstL es ≤ mstL ds
  | [], _, _ => Nat.zero_le _
  | e :: es, ds, h => Nat.max_le.mpr ⟨mst_mem (h e List.mem_cons_self), mstL_sub fun c m => h c (List.mem_cons_of_mem _ m)⟩
theorem sizL_drop (ds : List PyData) (n : Nat) : sizL (ds.drop n) ≤ sizL ds := by
  have z := sizL_app (ds.take n) (ds.drop n)
  rw [List.take_append_drop] at z
  omega
theorem sizL_take (ds : List PyData) (n : Nat) : sizL (ds.take n) ≤ sizL ds := by
  have z := sizL_app (ds.take n) (ds.drop n)
  rw [List.take_append_drop] at z
  omega
theorem sizL_rep (ds : List PyData) : ∀ c : Nat, sizL (List.replicate c ds).flatten = c * sizL ds
  | 0 => by rw [Nat.zero_mul]; rfl
  | c + 1 => by
    rw [List.replicate_succ, List.flatten_cons, sizL_app, sizL_rep ds c, Nat.succ_mul, Nat.add_comm]
/-- parts of ds alone, and not many more -/
def Of (m : Nat) (ds es : List PyData) : Prop := (∀ c ∈ es, c ∈ ds) ∧ sizL es ≤ m * sizL ds
theorem Of.cut {m : Nat} {ds es : List PyData} (h : Of m ds es) (i j : Nat) : Of m ds ((es.drop i).take j) :=
  ⟨fun c q => h.1 c (List.mem_of_mem_drop (List.mem_of_mem_take q)), Nat.le_trans (sizL_take _ _) (Nat.le_trans (sizL_drop _ _) h.2)⟩
theorem Of.all (ds : List PyData) : Of 1 ds ds := ⟨fun _ m => m, by rw [Nat.one_mul]; exact Nat.le_refl _⟩
theorem Of.app {m n : Nat} {ds es fs : List PyData} (h : Of m ds es) (g : Of n ds fs) : Of (m + n) ds (es ++ fs) := by
  refine ⟨fun c q => (List.mem_append.mp q).elim (h.1 c) (g.1 c), ?_⟩
  rw [sizL_app, Nat.add_mul]
  exact Nat.add_le_add h.2 g.2
theorem Of.rep {m : Nat} {ds es : List PyData} (h : Of m ds es) (c : Nat) : Of (c * m) ds (List.replicate c es).flatten := by
  refine ⟨fun x q => ?_, ?_⟩
  · obtain ⟨l, hl, hx⟩ := List.mem_flatten.mp q
    rw [List.eq_of_mem_replicate hl] at hx
    exact h.1 x hx
  · rw [sizL_rep, Nat.mul_assoc]
    exact Nat.mul_le_mul_left c h.2
theorem Of.up {m n : Nat} {ds es : List PyData} (h : Of m ds es) (l : m ≤ n) : Of n ds es := ⟨h.1, Nat.le_trans h.2 (Nat.mul_le_mul_right _ l)⟩
/-- a tree that came of another one -/
structure Near (m : Nat) (d e : PyData) : Prop where
  dp : dep e ≤ dep d
  sz : siz e ≤ m * siz d
  ms : mst e ≤ mst d
theorem near_row {m : Nat} {d e : PyData} (hd : isRowD d = true) (he : isRowD e = true) (o : Of m (partsD d) (partsD e)) (h1 : 1 ≤ m) : Near m d e := by
  refine ⟨?_, ?_, ?_⟩
  · rw [dep_row hd, dep_row he]
    have z := depL_sub o.1
    omega
  · rw [siz_row hd, siz_row he, Nat.mul_add, Nat.mul_one]
    have z := o.2
    omega
  · rw [mst_row hd, mst_row he]
    exact mstL_sub o.1
theorem near_like {m : Nat} {d : PyData} {es : List PyData} (hd : isRowD d = true) (o : Of m (partsD d) es) (h1 : 1 ≤ m) : Near m d (likeD d es) := near_row hd like_row.1 (by rw [like_row.2]; exact o) h1
theorem like_like {d : PyData} {es fs : List PyData} : likeD (likeD d es) fs = likeD d fs := by cases d <;> rfl
section
variable {P : Program} {w : World} {K : PySem.W.Frag} {mg : Str → Option Value} {base : Heap} {CS CB : Addr}
def spNumber : Sp := fun vs H Q _ => ∃ (F : Hp) (b : Addr) (i : Int), vs = [.ref b, .int i] ∧ Bag F H b ∧ ∀ (j : Int) (F' H' : Hp), Bag F' H' b → Same F F' → Q (.int j) H'
abbrev s_l_other_number : Stmt := topS 82
abbrev sc_l_other_numberN : List Str := ["_law_bag_here", "_law_number", "_law_numbers"]
abbrev ps_l_other_number : List Str := ["_law_bag_here", "_law_number"]
theorem sc_l_other_number : FnScope sc_l_other_numberN ps_l_other_number (defScope s_l_other_number) := ⟨rfl, rfl, rfl, by decide +kernel, rfl, by decide +kernel, by decide +kernel⟩
theorem ok_l_other_number {f : Addr} {fd : FuncData} (F : Fun K "_law_other_number" "_law_other_number" s_l_other_number f fd) (T : Txt K mg CS) (D_l_pick : Df P w K mg base "_law_pick" 1 ps_l_pick spPick) : FnOk P w K mg base CX0 2 f fd ps_l_other_number spNumber := by
  refine F.ok sc_l_other_number (fun vs H Q E h => ?_) (fun cdv A outer s H vs Q E hr h => ?_)
  · obtain ⟨_, _, _, rfl, _⟩ := h
    rfl
  · obtain ⟨F0, b, i, rfl, B, k⟩ := h
    refine ⟨_, (pss_cons (ps_set (i := 2) sc_l_other_number.nd rfl (Or.inl rfl) (pe_lst (pa_cons (pe_op op_add (pv 1) pe_int) (pa_cons (pe_op op_sub (pv 1) pe_int) (pa_cons pe_int (pa_cons (pe_op op_pow pe_int pe_int) (pa_cons (pe_op op_sub pe_int (pe_op op_pow pe_int pe_int)) (pa_cons (pe_op op_add (pe_op op_pow pe_int pe_int) pe_int) (pa_cons (pe_op op_sub (pe_op op_sub pe_int (pe_op op_pow pe_int pe_int)) pe_int) (pa_cons pe_int (pa_cons (pe_un un_neg pe_int) (pa_cons pe_int (pa_cons (pe_un un_neg pe_int) pa_nil)))))))))))))
  (pss_one (ps_ret (pe_ix ix_list (pv 2) (pe_d D_l_pick (hr.mono (by decide)) (pa_cons (pv 0) (pa_cons (pe_callB call_len_seq (by rfl) T.n_len (by decide +kernel) (pa_cons (pv 2) pa_nil)) pa_nil))) (fun _ _ => rfl))))), ?_⟩
    refine ⟨_, rfl, _, _, rfl, rfl, _, rfl, _, _, rfl, rfl, _, _, rfl, rfl, ⟨by decide, by decide, by decide⟩, _, _, rfl, rfl, ⟨by decide, by decide, by decide⟩, _, _, rfl, rfl, _, _, rfl, rfl, ⟨by decide, by decide, by decide⟩, _, _, rfl, rfl, _, _, rfl, rfl, ⟨by decide, by decide, by decide⟩, _, _, rfl, rfl, _, _, rfl, rfl, 1000, rfl, 1001, rfl, (by show 11 ≤ sizeLine; decide), fun L hL => ?_⟩
    have all : ∀ v ∈ ([.int (i + 1), .int (i - 1), .int 0, .int (10 ^ (9 : Int).toNat), .int (0 - 10 ^ (9 : Int).toNat), .int (10 ^ (9 : Int).toNat + 1), .int (0 - 10 ^ (9 : Int).toNat - 1), .int 1000, .int (-1000), .int 1001, .int (-1001)] : List V), ∃ j, v = .int j := fun v m => by
      simp only [List.mem_cons, List.mem_nil_iff, or_false] at m
      rcases m with rfl | rfl | rfl | rfl | rfl | rfl | rfl | rfl | rfl | rfl | rfl <;> exact ⟨_, rfl⟩
    have B1 := B.new (.lst [.int (i + 1), .int (i - 1), .int 0, .int (10 ^ (9 : Int).toNat), .int (0 - 10 ^ (9 : Int).toNat), .int (10 ^ (9 : Int).toNat + 1), .int (0 - 10 ^ (9 : Int).toNat - 1), .int 1000, .int (-1000), .int 1001, .int (-1001)]) hL
    have fL := B.fh.free hL
    refine ⟨_, rfl, _, rfl, _, rfl, L, _, rfl, .inl (.inl (.inl upd_same)), _, b, _, rfl, by show (0 : Int) < 11; decide, by show (11 : Int) < 1073741824; decide, B1, fun r H' r0 r1 B2 => ?_⟩
    obtain ⟨v, hv, hm⟩ := at_mem (xs := ([.int (i + 1), .int (i - 1), .int 0, .int (10 ^ (9 : Int).toNat), .int (0 - 10 ^ (9 : Int).toNat), .int (10 ^ (9 : Int).toNat + 1), .int (0 - 10 ^ (9 : Int).toNat - 1), .int 1000, .int (-1000), .int 1001, .int (-1001)] : List V)) r0 r1
    obtain ⟨j, rfl⟩ := all v hm
    exact ⟨L, _, _, _, rfl, rfl, .inl (.inl (B2.fh _ _ upd_same)), hv, k j _ H' B2 (same_new _ fL)⟩
def spString : Sp := fun vs H Q _ => ∃ (F : Hp) (b : Addr) (z : Str), vs = [.ref b, .str z] ∧ Bag F H b ∧ z.length ≤ 1000 ∧ ∀ (y : Str) (F' H' : Hp), Bag F' H' b → Same F F' → y.length ≤ 2 * z.length + 1 → Q (.str y) H'
abbrev s_l_other_string : Stmt := topS 83
abbrev sc_l_other_stringN : List Str := ["_law_bag_here", "_law_word_here", "_law_letters", "_law_letter", "_law_at_here"]
abbrev ps_l_other_string : List Str := ["_law_bag_here", "_law_word_here"]
theorem sc_l_other_string : FnScope sc_l_other_stringN ps_l_other_string (defScope s_l_other_string) := ⟨rfl, rfl, rfl, by decide +kernel, rfl, by decide +kernel, by decide +kernel⟩
theorem ok_l_other_string {f : Addr} {fd : FuncData} (F : Fun K "_law_other_string" "_law_other_string" s_l_other_string f fd) (T : Txt K mg CS) (D_l_pick : Df P w K mg base "_law_pick" 1 ps_l_pick spPick) : FnOk P w K mg base CX0 2 f fd ps_l_other_string spString := by
  refine F.ok sc_l_other_string (fun vs H Q E h => ?_) (fun cdv A outer s H vs Q E hr h => ?_)
  · obtain ⟨_, _, _, rfl, _⟩ := h
    rfl
  · obtain ⟨F0, b, z, rfl, B, lz, k⟩ := h
    refine ⟨_, (pss_cons (ps_set (i := 2) sc_l_other_string.nd rfl (Or.inl rfl) pe_str)
  (pss_cons (ps_set (i := 3) sc_l_other_string.nd rfl (Or.inl rfl) (pe_ix ix_str (pv 2) (pe_d D_l_pick (hr.mono (by decide)) (pa_cons (pv 0) (pa_cons (pe_callB call_len_str (by rfl) T.n_len (by decide +kernel) (pa_cons (pv 2) pa_nil)) pa_nil))) (fun _ _ => rfl)))
  (pss_cons (ps_set (i := 4) sc_l_other_string.nd rfl (Or.inl rfl) (pe_d D_l_pick (hr.mono (by decide)) (pa_cons (pv 0) (pa_cons (pe_op op_add (pe_callB call_len_str (by rfl) T.n_len (by decide +kernel) (pa_cons (pv 1) pa_nil)) pe_int) pa_nil))))
  (pss_one (ps_ret (pe_ix ix_list (pe_lst (pa_cons (pe_op op_add_str (pe_op op_add_str (pe_slice sl_str (pv 1) po_none (po_some (pv 4))) (pv 3)) (pe_slice sl_str (pv 1) (po_some (pv 4)) po_none)) (pa_cons (pe_op op_add_str (pe_slice sl_str (pv 1) po_none (po_some (pv 4))) (pe_slice sl_str (pv 1) (po_some (pe_op op_add (pv 4) pe_int)) po_none)) (pa_cons (pe_op op_add_str (pe_op op_add_str (pe_slice sl_str (pv 1) po_none (po_some (pv 4))) (pv 3)) (pe_slice sl_str (pv 1) (po_some (pe_op op_add (pv 4) pe_int)) po_none)) pa_nil)))) (pe_d D_l_pick (hr.mono (by decide)) (pa_cons (pv 0) (pa_cons pe_int pa_nil))) (fun _ _ => rfl))))))), ?_⟩
    have sz : ∀ n : Nat, n ≤ 100000 → n ≤ sizeLine := fun n q => Nat.le_of_lt (Nat.lt_of_le_of_lt q (by decide))
    refine ⟨_, rfl, _, rfl, _, rfl, _, rfl, by decide, F0, b, _, rfl, by decide, by decide, B, fun r H1 r0 r1 B1 => ?_⟩
    obtain ⟨c, hc, _⟩ := at_mem (xs := ("abcdefghijklmnopqrstuvwxyz_A1 " : Str).cps.toList) r0 r1
    refine ⟨_, _, c, rfl, rfl, by decide, hc, ?_⟩
    refine ⟨_, rfl, _, rfl, _, rfl, sz _ (by omega), _, _, rfl, rfl, F0, b, _, rfl, by omega, by omega, B1, fun q H2 q0 q1 B2 => ?_⟩
    have len : ∀ lo hi, (cutS z lo hi).length ≤ z.length := fun lo hi => cutS_length z lo hi
    have one : ((⟨#[c]⟩ : Str)).length = 1 := rfl
    have l2 : ∀ x y : Str, (x ++ y).length = x.length + y.length := fun x y => Str.length_append x y
    have s2 : ∀ lo hi, (cutS z lo hi).length + 1 ≤ sizeLine := fun lo hi => sz _ (by have y := len lo hi; omega)
    have s3 : ∀ lo hi lo' hi', (cutS z lo hi ++ ⟨#[c]⟩).length + (cutS z lo' hi').length ≤ sizeLine := fun lo hi lo' hi' => sz _ (by have y := len lo hi; have y2 := len lo' hi'; rw [l2, one]; omega)
    have s4 : ∀ lo hi lo' hi', (cutS z lo hi).length + (cutS z lo' hi').length ≤ sizeLine := fun lo hi lo' hi' => sz _ (by have y := len lo hi; have y2 := len lo' hi'; omega)
    have b3 : ∀ lo hi lo' hi', (cutS z lo hi ++ ⟨#[c]⟩ ++ cutS z lo' hi').length ≤ 2 * z.length + 1 := fun lo hi lo' hi' => by have y := len lo hi; have y2 := len lo' hi'; rw [l2, l2, one]; omega
    have b4 : ∀ lo hi lo' hi', (cutS z lo hi ++ cutS z lo' hi').length ≤ 2 * z.length + 1 := fun lo hi lo' hi' => by have y := len lo hi; have y2 := len lo' hi'; rw [l2]; omega
    refine ⟨_, rfl, _, rfl, _, rfl, z, rfl, sz _ (by omega), _, rfl, _, _, rfl, rfl, s2 _ _, _, rfl, _, rfl, _, rfl, z, rfl, sz _ (by omega), _, _, rfl, rfl, s3 _ _ _ _, ?_⟩
    refine ⟨_, rfl, _, rfl, _, rfl, z, rfl, sz _ (by omega), _, rfl, _, rfl, _, _, rfl, rfl, _, rfl, z, rfl, sz _ (by omega), _, _, rfl, rfl, s4 _ _ _ _, ?_⟩
    refine ⟨_, rfl, _, rfl, _, rfl, z, rfl, sz _ (by omega), _, rfl, _, _, rfl, rfl, s2 _ _, _, rfl, _, rfl, _, _, rfl, rfl, _, rfl, z, rfl, sz _ (by omega), _, _, rfl, rfl, s3 _ _ _ _, (by show 3 ≤ sizeLine; decide), fun L hL => ?_⟩
    have fL := B2.fh.free hL
    refine ⟨_, rfl, _, b, 3, rfl, by decide, by decide, B2.new _ hL, fun r3 H3 p0 p1 B3 => ?_⟩
    have eL := B3.fh L _ upd_same
    obtain ⟨v, hv, hm⟩ := at_mem (xs := ([.str (cutS z none (some q) ++ ⟨#[c]⟩ ++ cutS z (some q) none), .str (cutS z none (some q) ++ cutS z (some (q + 1)) none), .str (cutS z none (some q) ++ ⟨#[c]⟩ ++ cutS z (some (q + 1)) none)] : List V)) p0 p1
    refine ⟨L, _, _, v, rfl, rfl, .inl (.inl eL), hv, ?_⟩
    simp only [List.mem_cons, List.mem_nil_iff, or_false] at hm
    rcases hm with rfl | rfl | rfl
    · exact k _ _ H3 B3 (same_new _ fL) (b3 _ _ _ _)
    · exact k _ _ H3 B3 (same_new _ fL) (b4 _ _ _ _)
    · exact k _ _ H3 B3 (same_new _ fL) (b3 _ _ _ _)
def spRow2 : Sp := fun vs H Q _ => ∃ (F : Hp) (b : Addr) (v : V) (d : PyData), vs = [.ref b, v] ∧ Bag F H b ∧ Tp F v d ∧ isRowD d = true ∧ siz d ≤ 1000 ∧ ∀ u e F' H', Bag F' H' b → Same F F' → Tp F' u e → Near 15 d e → Q u H'
abbrev s_l_other_row : Stmt := topS 84
abbrev sc_l_other_rowN : List Str := ["_law_bag_here", "_law_row_here", "_law_at_here", "_law_to", "_law_many", "_law_choice"]
abbrev ps_l_other_row : List Str := ["_law_bag_here", "_law_row_here"]
theorem sc_l_other_row : FnScope sc_l_other_rowN ps_l_other_row (defScope s_l_other_row) := ⟨rfl, rfl, rfl, by decide +kernel, rfl, by decide +kernel, by decide +kernel⟩
theorem ok_l_other_row {f : Addr} {fd : FuncData} (F : Fun K "_law_other_row" "_law_other_row" s_l_other_row f fd) (T : Txt K mg CS) (D_l_pick : Df P w K mg base "_law_pick" 1 ps_l_pick spPick) : FnOk P w K mg base CX0 2 f fd ps_l_other_row spRow2 := by
  refine F.ok sc_l_other_row (fun vs H Q E h => ?_) (fun cdv A outer s H vs Q E hr h => ?_)
  · obtain ⟨_, _, _, _, rfl, _⟩ := h
    rfl
  · obtain ⟨F0, b, v, d, rfl, B, hv, er, hz, k⟩ := h
    refine ⟨_, (pss_cons (ps_set (i := 2) sc_l_other_row.nd rfl (Or.inl rfl) (pe_d D_l_pick (hr.mono (by decide)) (pa_cons (pv 0) (pa_cons (pe_op op_add (pe_callB call_len_seq (by rfl) T.n_len (by decide +kernel) (pa_cons (pv 1) pa_nil)) pe_int) pa_nil))))
  (pss_cons (ps_set (i := 3) sc_l_other_row.nd rfl (Or.inl rfl) (pe_d D_l_pick (hr.mono (by decide)) (pa_cons (pv 0) (pa_cons (pe_op op_add (pe_callB call_len_seq (by rfl) T.n_len (by decide +kernel) (pa_cons (pv 1) pa_nil)) pe_int) pa_nil))))
  (pss_cons (ps_set (i := 4) sc_l_other_row.nd rfl (Or.inl rfl) (pe_d D_l_pick (hr.mono (by decide)) (pa_cons (pv 0) (pa_cons pe_int pa_nil))))
  (pss_cons (ps_set (i := 5) sc_l_other_row.nd rfl (Or.inl rfl) (pe_d D_l_pick (hr.mono (by decide)) (pa_cons (pv 0) (pa_cons pe_int pa_nil))))
  (pss_cons (ps_if (pt_cmpR op_eq (pv 5) pe_int (nomark _))
    (pss_one (ps_ret (pe_op op_catAny (pe_slice sl_any (pv 1) po_none (po_some (pv 2))) (pe_slice sl_any (pv 1) (po_some (pe_op op_add (pv 2) pe_int)) po_none))))
    pss_nil)
  (pss_cons (ps_if (pt_cmpR op_eq (pv 5) pe_int (nomark _))
    (pss_one (ps_ret (pe_op op_catAny (pe_op op_catAny (pe_slice sl_any (pv 1) po_none (po_some (pv 2))) (pe_op op_repAny (pe_slice sl_any (pv 1) (po_some (pv 2)) (po_some (pe_op op_add (pv 2) pe_int))) (pe_op op_add pe_int (pv 4)))) (pe_slice sl_any (pv 1) (po_some (pe_op op_add (pv 2) pe_int)) po_none))))
    pss_nil)
  (pss_cons (ps_if (pt_cmpR op_eq (pv 5) pe_int (nomark _))
    (pss_one (ps_ret (pe_op op_catAny (pe_op op_catAny (pe_slice sl_any (pv 1) po_none (po_some (pe_callB (call_min2 (by rfl)) (by rfl) T.n_min (by decide +kernel) (pa_cons (pv 2) (pa_cons (pv 3) pa_nil))))) (pe_slice sl_any (pv 1) (po_some (pe_callB (call_max2 (by rfl)) (by rfl) T.n_max (by decide +kernel) (pa_cons (pv 2) (pa_cons (pv 3) pa_nil)))) po_none)) (pe_slice sl_any (pv 1) (po_some (pe_callB (call_min2 (by rfl)) (by rfl) T.n_min (by decide +kernel) (pa_cons (pv 2) (pa_cons (pv 3) pa_nil)))) (po_some (pe_callB (call_max2 (by rfl)) (by rfl) T.n_max (by decide +kernel) (pa_cons (pv 2) (pa_cons (pv 3) pa_nil))))))))
    pss_nil)
  (pss_cons (ps_if (pt_cmpR op_eq (pv 5) pe_int (nomark _))
    (pss_one (ps_ret (pe_slice sl_any (pe_op op_repAny (pv 1) (pe_op op_add pe_int (pv 4))) po_none (po_some pe_int))))
    pss_nil)
  (pss_cons (ps_if (pt_val (pe_callB call_isi (by rfl) T.n_isinstance (by decide +kernel) (pa_cons (pv 1) (pa_cons (pe_bltn (v := .ty "tuple") (by rfl) T.n_tuple (by decide +kernel) rfl) pa_nil))))
    (pss_one (ps_ret (pe_callTy call_list_of (by rfl) T.n_list (by decide +kernel) (pa_cons (pv 1) pa_nil))))
    pss_nil)
  (pss_one (ps_ret (pe_callTy call_tuple_of (by rfl) T.n_tuple (by decide +kernel) (pa_cons (pv 1) pa_nil))))))))))))), ?_⟩
    obtain ⟨a, xs, rfl, hx, hxs⟩ := hv.row er
    have lx := hxs.len
    have ls := siz_len (partsD d)
    have hz2 := hz
    rw [siz_row er] at hz2
    have hxB : ∀ {G : Hp}, Bag F0 G b → SqL K G a xs ∨ SqT K G a xs := fun B => rw_sq (hx.same B.fh)
    refine ⟨_, rfl, _, rfl, a, xs, rfl, hxB B, _, _, rfl, rfl, F0, b, _, rfl, by omega, by omega, B, fun r1 H1 r10 r11 B1 => ?_⟩
    refine ⟨_, rfl, _, rfl, a, xs, rfl, hxB B1, _, _, rfl, rfl, F0, b, _, rfl, by omega, by omega, B1, fun r2 H2 r20 r21 B2 => ?_⟩
    refine ⟨_, rfl, F0, b, 13, rfl, by decide, by decide, B2, fun r3 H3 r30 r31 B3 => ?_⟩
    refine ⟨_, rfl, F0, b, 5, rfl, by decide, by decide, B3, fun r4 H4 r40 r41 B4 => ?_⟩
    have short : ∀ {m : Nat} {es : List PyData}, m ≤ 14 → Of m (partsD d) es → es.length ≤ 14000 := fun {m es} hm o => by
      have z := siz_len es
      have y := o.2
      have q : m * sizL (partsD d) ≤ 14 * 1000 := Nat.mul_le_mul hm (by omega)
      omega
    refine ⟨_, rfl, rfl, _, rfl, ifd (fun _ => ?_) fun _ => ?_⟩
    · refine ⟨_, rfl, _, rfl, _, rfl, sl_tree B4.fh hv er fun u1 F1 G1 g1 t1 => ?_⟩
      refine ⟨_, rfl, _, rfl, _, _, rfl, rfl, _, rfl, sl_tree g1.fh (hv.same g1.ff) er fun u2 F2 G2 g2 t2 => ?_⟩
      have o1 := (Of.all (partsD d)).cut (HT.sIx (partsD d).length 0 none) (HT.sIx (partsD d).length (partsD d).length (some r1) - HT.sIx (partsD d).length 0 none)
      have o2 := (Of.all (partsD d)).cut (HT.sIx (partsD d).length 0 (some (r1 + 1))) (HT.sIx (partsD d).length (partsD d).length none - HT.sIx (partsD d).length 0 (some (r1 + 1)))
      refine cat_tree g2.fh (t1.same g2.ff) t2 (by have y1 := short (by decide) o1; have y2 := short (by decide) o2; omega) fun w3 F3 G3 g3 t3 => ?_
      have g := g1.trans (g2.trans g3)
      exact k _ _ _ _ (B4.grow g) g.ff t3 (near_like er ((o1.app o2).up (by decide)) (by decide))
    obtain ⟨m3, rfl⟩ : ∃ m : Nat, r3 = (m : Int) := ⟨r3.toNat, by omega⟩
    have e1 : (1 : Int) + (m3 : Nat) = ((1 + m3 : Nat) : Int) := by omega
    refine ⟨_, rfl, rfl, _, rfl, ifd (fun _ => ?_) fun _ => ?_⟩
    · refine ⟨_, rfl, _, rfl, _, rfl, sl_tree B4.fh hv er fun u1 F1 G1 g1 t1 => ?_⟩
      refine ⟨_, rfl, _, rfl, _, rfl, _, rfl, _, _, rfl, rfl, _, rfl, sl_tree g1.fh (hv.same g1.ff) er fun u2 F2 G2 g2 t2 => ?_⟩
      have o1 := (Of.all (partsD d)).cut (HT.sIx (partsD d).length 0 none) (HT.sIx (partsD d).length (partsD d).length (some r1) - HT.sIx (partsD d).length 0 none)
      have o2 := (Of.all (partsD d)).cut (HT.sIx (partsD d).length 0 (some r1)) (HT.sIx (partsD d).length (partsD d).length (some (r1 + 1)) - HT.sIx (partsD d).length 0 (some r1))
      have l2 := siz_len (((partsD d).drop (HT.sIx (partsD d).length 0 (some r1))).take (HT.sIx (partsD d).length (partsD d).length (some (r1 + 1)) - HT.sIx (partsD d).length 0 (some r1)))
      have l3 := o2.2
      refine ⟨_, rfl, _, _, rfl, rfl, ?_⟩
      show rRep _ (.int (1 + (m3 : Nat))) _ _ ∨ _
      rw [e1]
      refine rep_tree g2.fh t2 (by omega) (by omega) (by omega) fun u3 F3 G3 g3 t3 => ?_
      have o3 := o2.rep (1 + m3)
      refine cat_tree g3.fh ((t1.same g2.ff).same g3.ff) t3 (by have y1 := short (by decide) o1; have y2 := short (by omega) o3; omega) fun u4 F4 G4 g4 t4 => ?_
      have gg := g1.trans (g2.trans (g3.trans g4))
      refine ⟨_, rfl, _, rfl, _, _, rfl, rfl, _, rfl, sl_tree gg.fh (hv.same gg.ff) er fun u5 F5 G5 g5 t5 => ?_⟩
      have o5 := (Of.all (partsD d)).cut (HT.sIx (partsD d).length 0 (some (r1 + 1))) (HT.sIx (partsD d).length (partsD d).length none - HT.sIx (partsD d).length 0 (some (r1 + 1)))
      have o4 := o1.app o3
      refine cat_tree g5.fh (t4.same g5.ff) t5 (by have y1 := short (by omega) o4; have y2 := short (by decide) o5; omega) fun w6 F6 G6 g6 t6 => ?_
      have g := gg.trans (g5.trans g6)
      exact k _ _ _ _ (B4.grow g) g.ff t6 (near_like er ((o4.app o5).up (by omega)) (by decide))
    refine ⟨_, rfl, rfl, _, rfl, ifd (fun _ => ?_) fun _ => ?_⟩
    · refine ⟨_, rfl, _, rfl, _, rfl, _, _, rfl, _, rfl, sl_tree B4.fh hv er fun u1 F1 G1 g1 t1 => ?_⟩
      refine ⟨_, rfl, _, rfl, _, rfl, _, _, rfl, _, rfl, sl_tree g1.fh (hv.same g1.ff) er fun u2 F2 G2 g2 t2 => ?_⟩
      have o : ∀ i j, Of 1 (partsD d) (((partsD d).drop i).take j) := fun i j => (Of.all (partsD d)).cut i j
      refine cat_tree g2.fh (t1.same g2.ff) t2 (by have y1 := short (by decide) (o (HT.sIx (partsD d).length 0 none) (HT.sIx (partsD d).length (partsD d).length (some (if r2 < r1 then r2 else r1)) - HT.sIx (partsD d).length 0 none)); have y2 := short (by decide) (o (HT.sIx (partsD d).length 0 (some (if r2 > r1 then r2 else r1))) (HT.sIx (partsD d).length (partsD d).length none - HT.sIx (partsD d).length 0 (some (if r2 > r1 then r2 else r1)))); omega) fun u3 F3 G3 g3 t3 => ?_
      have gg := g1.trans (g2.trans g3)
      refine ⟨_, rfl, _, rfl, _, rfl, _, _, rfl, _, rfl, _, rfl, _, rfl, _, _, rfl, _, rfl, sl_tree gg.fh (hv.same gg.ff) er fun u4 F4 G4 g4 t4 => ?_⟩
      have o4 := (o (HT.sIx (partsD d).length 0 none) (HT.sIx (partsD d).length (partsD d).length (some (if r2 < r1 then r2 else r1)) - HT.sIx (partsD d).length 0 none)).app (o (HT.sIx (partsD d).length 0 (some (if r2 > r1 then r2 else r1))) (HT.sIx (partsD d).length (partsD d).length none - HT.sIx (partsD d).length 0 (some (if r2 > r1 then r2 else r1))))
      have o5 := o (HT.sIx (partsD d).length 0 (some (if r2 < r1 then r2 else r1))) (HT.sIx (partsD d).length (partsD d).length (some (if r2 > r1 then r2 else r1)) - HT.sIx (partsD d).length 0 (some (if r2 < r1 then r2 else r1)))
      refine cat_tree g4.fh (t3.same g4.ff) t4 (by have y1 := short (by decide) o4; have y2 := short (by decide) o5; omega) fun w5 F5 G5 g5 t5 => ?_
      have g := gg.trans (g4.trans g5)
      exact k _ _ _ _ (B4.grow g) g.ff t5 (near_like er ((o4.app o5).up (by decide)) (by decide))
    refine ⟨_, rfl, rfl, _, rfl, ifd (fun _ => ?_) fun _ => ?_⟩
    · refine ⟨_, rfl, _, rfl, _, _, rfl, rfl, ?_⟩
      show rRep _ (.int (1 + (m3 : Nat))) _ _ ∨ _
      rw [e1]
      have hv2 : Tp F0 (.ref a) (likeD d (partsD d)) := by rw [like_same er]; exact hv
      refine rep_tree B4.fh hv2 (by omega) (by omega) (by omega) fun u3 F3 G3 g3 t3 => ?_
      have o3 := (Of.all (partsD d)).rep (1 + m3)
      refine ⟨_, rfl, sl_tree g3.fh t3 like_row.1 fun u4 F4 G4 g4 t4 => ?_⟩
      rw [like_like, like_row.2] at t4
      have g := g3.trans g4
      exact k _ _ _ _ (B4.grow g) g.ff t4 (near_like er ((o3.cut _ _).up (by omega)) (by decide))
    refine ⟨_, rfl, _, _, _, _, _, rfl, .ty _, (hv.same B4.fh).ty, kit_ty (kit_d (by simp)), _, rfl, ?_⟩
    have last : ∀ e : PyData, isRowD e = true → partsD e = partsD d → Near 15 d e := fun e h1 h2 => near_row er h1 (by rw [h2]; exact (Of.all _).up (by decide)) (by decide)
    cases d with
    | tuple ds =>
      refine iteT ⟨_, rfl, a, xs, rfl, hxB B4, fun l hl => ?_⟩
      have g := Grow.new B4.fh (.lst xs) hl
      exact k _ (.list ds) _ _ (B4.grow g) g.ff (.lst upd_same (hxs.same g.ff)) (last _ rfl rfl)
    | list ds =>
      refine iteF ⟨_, rfl, a, xs, rfl, ?_⟩
      rcases hxB B4 with h | h
      · refine .inl ⟨h, fun l hl => ?_⟩
        have g := Grow.new B4.fh (.tup xs) hl
        exact k _ (.tuple ds) _ _ (B4.grow g) g.ff (.tup upd_same (hxs.same g.ff)) (last _ rfl rfl)
      · have hx2 : F0 a = some (.lst xs) := by
          rcases hv.list with ⟨b2, ys, e, h1, _⟩
          cases e
          rcases hx with h2 | h2
          · exact h2
          · rw [h2] at h1
            cases h1
        refine .inl ⟨.inl (.inl (B4.fh _ _ hx2)), fun l hl => ?_⟩
        have g := Grow.new B4.fh (.tup xs) hl
        exact k _ (.tuple ds) _ _ (B4.grow g) g.ff (.tup upd_same (hxs.same g.ff)) (last _ rfl rfl)
    | _ => cases er
end
end Fm

/-! ## K08P -/
set_option Elab.async false
set_option maxRecDepth 100000
set_option maxHeartbeats 4000000
namespace Fm
open PySem L2
/-! ### a tree with another part -/
theorem part_bd : ∀ {p : List Nat} {d c : PyData}, partAt d p = some c → p.length + dep c ≤ dep d ∧ siz c ≤ siz d ∧ mst c ≤ mst d
  | [], d, c, h => by
    cases h
    refine ⟨?_, Nat.le_refl _, Nat.le_refl _⟩
    show 0 + dep d ≤ dep d
    omega
  | i :: p, d, c, h => by
    have h2 : (if isRowD d = true then (match (partsD d)[i]? with | some c => partAt c p | none => none) else none) = some c := h
    cases er : isRowD d with
    | false =>
      rw [er] at h2
      cases h2
    | true =>
      rw [er, if_pos rfl] at h2
      cases ej : (partsD d)[i]? with
      | none =>
        rw [ej] at h2
        cases h2
      | some e =>
        rw [ej] at h2
        obtain ⟨z1, z2, z3⟩ := part_bd h2
        have m := List.mem_of_getElem? ej
        have y1 := dep_mem m
        have y2 := siz_mem m
        have y3 := mst_mem m
        rw [dep_row er, siz_row er, mst_row er]
        refine ⟨?_, by omega, by omega⟩
        show p.length + 1 + dep c ≤ 1 + depL (partsD d)
        omega
theorem depL_set : ∀ (ds : List PyData) (i : Nat) (e : PyData), depL (ds.set i e) ≤ max (depL ds) (dep e)
  | [], _, _ => Nat.zero_le _
  | d :: ds, 0, e => by
    show max (dep e) (depL ds) ≤ max (max (dep d) (depL ds)) (dep e)
    omega
  | d :: ds, i + 1, e => by
    show max (dep d) (depL (ds.set i e)) ≤ max (max (dep d) (depL ds)) (dep e)
    have z := depL_set ds i e
    omega
theorem mstL_set : ∀ (ds : List PyData) (i : Nat) (e : PyData), mstL (ds.set i e) ≤ max (mstL ds) (mst e)
  | [], _, _ => Nat.zero_le _
  | d :: ds, 0, e => by
    show max (mst e) (mstL ds) ≤ max (max (mst d) (mstL ds)) (mst e)
    omega
  | d :: ds, i + 1, e => by
    show max (mst d) (mstL (ds.set i e)) ≤ max (max (mst d) (mstL ds)) (mst e)
    have z := mstL_set ds i e
    omega
theorem sizL_set : ∀ (ds : List PyData) (i : Nat) (c e : PyData), ds[i]? = some c → sizL (ds.set i e) + siz c = sizL ds + siz e
  | [], _, _, _, h => by simp at h
  | d :: ds, 0, c, e, h => by
    cases h
    show siz e + sizL ds + siz d = siz d + sizL ds + siz e
    omega
  | d :: ds, i + 1, c, e, h => by
    rw [List.getElem?_cons_succ] at h
    have z := sizL_set ds i c e h
    show siz d + sizL (ds.set i e) + siz c = siz d + sizL ds + siz e
    omega
theorem with_bd : ∀ {p : List Nat} {d c e : PyData}, partAt d p = some c → dep (withD d p e) ≤ max (dep d) (p.length + dep e) ∧ siz (withD d p e) ≤ siz d + siz e ∧ mst (withD d p e) ≤ max (mst d) (mst e)
  | [], d, c, e, _ => by
    refine ⟨?_, ?_, ?_⟩
    · show dep e ≤ max (dep d) (0 + dep e)
      omega
    · show siz e ≤ siz d + siz e
      omega
    · show mst e ≤ max (mst d) (mst e)
      omega
  | i :: p, d, c, e, h => by
    have h2 : (if isRowD d = true then (match (partsD d)[i]? with | some c => partAt c p | none => none) else none) = some c := h
    cases er : isRowD d with
    | false =>
      rw [er] at h2
      cases h2
    | true =>
      rw [er, if_pos rfl] at h2
      cases ej : (partsD d)[i]? with
      | none =>
        rw [ej] at h2
        cases h2
      | some x =>
        rw [ej] at h2
        obtain ⟨z1, z2, z3⟩ := with_bd (e := e) h2
        have wd : withD d (i :: p) e = likeD d ((partsD d).set i (withD x p e)) := by
          show (match (partsD d)[i]? with | some e2 => likeD d ((partsD d).set i (withD e2 p e)) | none => d) = _
          rw [ej]
        have m := List.mem_of_getElem? ej
        have y1 := dep_mem m
        have y2 := siz_mem m
        have y3 := mst_mem m
        have q1 := depL_set (partsD d) i (withD x p e)
        have q2 := sizL_set (partsD d) i x (withD x p e) ej
        have q3 := mstL_set (partsD d) i (withD x p e)
        rw [wd, dep_row like_row.1, siz_row like_row.1, mst_row like_row.1, like_row.2, dep_row er, siz_row er, mst_row er]
        have e1 : (i :: p).length = p.length + 1 := rfl
        rw [e1]
        refine ⟨by omega, by omega, by omega⟩
section
variable {P : Program} {w : World} {K : PySem.W.Frag} {mg : Str → Option Value} {base : Heap} {CS CB : Addr}
def isIntD : PyData → Bool
  | .int _ => true
  | _ => false
def spInteger : Sp := fun vs H Q _ => ∃ (v : V) (d : PyData), vs = [v] ∧ Tp H v d ∧ Q (.bl (isIntD d)) H
abbrev s_l_integer : Stmt := topS 56
abbrev sc_l_integerN : List Str := ["_law_thing"]
abbrev ps_l_integer : List Str := ["_law_thing"]
theorem sc_l_integer : FnScope sc_l_integerN ps_l_integer (defScope s_l_integer) := ⟨rfl, rfl, rfl, by decide +kernel, rfl, by decide +kernel, by decide +kernel⟩
theorem ok_l_integer {f : Addr} {fd : FuncData} (F : Fun K "_law_integer" "_law_integer" s_l_integer f fd) (T : Txt K mg CS) : FnOk P w K mg base CX0 1 f fd ps_l_integer spInteger := by
  refine F.ok sc_l_integer (fun vs H Q E h => ?_) (fun cdv A outer s H vs Q E hr h => ?_)
  · obtain ⟨_, _, rfl, _⟩ := h
    rfl
  · obtain ⟨v, d, rfl, hv, k⟩ := h
    refine ⟨_, (pss_one (ps_ret (pe_and (pe_callB call_isi (by rfl) T.n_isinstance (by decide +kernel) (pa_cons (pv 0) (pa_cons (pe_bltn (v := .ty "int") (by rfl) T.n_int (by decide +kernel) rfl) pa_nil))) (pe_one (pe_not (pe_callB call_isi (by rfl) T.n_isinstance (by decide +kernel) (pa_cons (pv 0) (pa_cons (pe_bltn (v := .ty "bool") (by rfl) T.n_bool (by decide +kernel) rfl) pa_nil)))))))), ?_⟩
    have ty := hv.ty (K := K)
    refine ⟨_, rfl, _, _, _, _, _, rfl, .ty _, ty, kit_ty (kit_d (by simp)), _, rfl, ?_⟩
    cases d with
    | int i => exact iteT ⟨_, rfl, _, _, _, _, _, rfl, .ty _, ty, kit_ty (kit_d (by simp)), _, rfl, k⟩
    | bool b => exact iteT ⟨_, rfl, _, _, _, _, _, rfl, .ty _, ty, kit_ty (kit_d (by simp)), _, rfl, k⟩
    | none => exact iteF k
    | str _ => exact iteF k
    | list _ => exact iteF k
    | tuple _ => exact iteF k
    | dict _ => exact iteF k
/-- what is spoilt is some tree -/
def spSpoiled : Sp := fun vs H Q _ => ∃ (F : Hp) (b q : Addr) (v : V) (d : PyData) (ns : List Str), vs = [.ref b, v, .ref q] ∧ Bag F H b ∧ Tp F v d ∧ F q = some (.lst (ns.map V.str)) ∧ 1 ≤ ns.length ∧ ns.length ≤ 1000 ∧ (∀ n ∈ ns, n.length ≤ 9) ∧ dep d ≤ 18 ∧ siz d ≤ 1000 ∧ mst d ≤ 1000 ∧
  ∀ u e F' H', Bag F' H' b → Same F F' → Tp F' u e → dep e ≤ 2 * dep d + 2 → siz e ≤ 16 * siz d + 10 → mst e ≤ 2 * mst d + 9 → Q u H'
abbrev s_l_spoiled : Stmt := topS 85
abbrev sc_l_spoiledN : List Str := ["_law_bag_here", "_law_thing", "_law_names", "_law_places_here", "_law_path", "_law_other", "_law_part", "_law_choice", "_law_odd_here"]
abbrev ps_l_spoiled : List Str := ["_law_bag_here", "_law_thing", "_law_names"]
theorem sc_l_spoiled : FnScope sc_l_spoiledN ps_l_spoiled (defScope s_l_spoiled) := ⟨rfl, rfl, rfl, by decide +kernel, rfl, by decide +kernel, by decide +kernel⟩
theorem ok_l_spoiled {f : Addr} {fd : FuncData} (F : Fun K "_law_spoiled" "_law_spoiled" s_l_spoiled f fd) (T : Txt K mg CS) (D_l_pick : Df P w K mg base "_law_pick" 1 ps_l_pick spPick) (D_l_places : Df P w K mg base "_law_places" 40 ps_l_places (spPlaces 40)) (D_l_at : Df P w K mg base "_law_at" 1 ps_l_at spAt) (D_l_odd : Df P w K mg base "_law_odd" 2 ps_l_odd spOdd)
    (D_l_deep : Df P w K mg base "_law_deep" 40 ps_l_deep (spDeep 40)) (D_l_other_row : Df P w K mg base "_law_other_row" 2 ps_l_other_row spRow2) (D_l_other_string : Df P w K mg base "_law_other_string" 2 ps_l_other_string spString) (D_l_integer : Df P w K mg base "_law_integer" 1 ps_l_integer spInteger)
    (D_l_other_number : Df P w K mg base "_law_other_number" 2 ps_l_other_number spNumber) (D_l_with : Df P w K mg base "_law_with" 40 ps_l_with (spWith 40)) : FnOk P w K mg base CX0 41 f fd ps_l_spoiled spSpoiled := by
  refine F.ok sc_l_spoiled (fun vs H Q E h => ?_) (fun cdv A outer s H vs Q E hr h => ?_)
  · obtain ⟨_, _, _, _, _, _, rfl, _⟩ := h
    rfl
  · obtain ⟨F0, b, q, v, d, ns, rfl, B, hv, hq, ln1, ln, nn, hd, hz, hm, k⟩ := h
    refine ⟨_, (pss_cons (ps_set (i := 3) sc_l_spoiled.nd rfl (Or.inl rfl) (pe_d D_l_places (hr.mono (by decide)) (pa_cons (pv 1) (pa_cons (pe_tup pa_nil) pa_nil))))
  (pss_cons (ps_set (i := 4) sc_l_spoiled.nd rfl (Or.inl rfl) (pe_ix ix_list (pv 3) (pe_d D_l_pick (hr.mono (by decide)) (pa_cons (pv 0) (pa_cons (pe_callB call_len_seq (by rfl) T.n_len (by decide +kernel) (pa_cons (pv 3) pa_nil)) pa_nil))) (fun _ _ => rfl)))
  (pss_cons (ps_set (i := 5) sc_l_spoiled.nd rfl (Or.inl rfl) (pe_d D_l_at (hr.mono (by decide)) (pa_cons (pv 1) (pa_cons (pe_ix ix_list (pv 3) (pe_d D_l_pick (hr.mono (by decide)) (pa_cons (pv 0) (pa_cons (pe_callB call_len_seq (by rfl) T.n_len (by decide +kernel) (pa_cons (pv 3) pa_nil)) pa_nil))) (fun _ _ => rfl)) pa_nil))))
  (pss_cons (ps_set (i := 6) sc_l_spoiled.nd rfl (Or.inl rfl) (pe_d D_l_at (hr.mono (by decide)) (pa_cons (pv 1) (pa_cons (pv 4) pa_nil))))
  (pss_cons (ps_set (i := 7) sc_l_spoiled.nd rfl (Or.inl rfl) (pe_d D_l_pick (hr.mono (by decide)) (pa_cons (pv 0) (pa_cons pe_int pa_nil))))
  (pss_cons (ps_set (i := 8) sc_l_spoiled.nd rfl (Or.inl rfl) (pe_d D_l_odd (hr.mono (by decide)) (pa_cons (pv 0) pa_nil)))
  (Evl.pss_cut (ps_if (PW.pt (pw_or (pt_cmpR op_eq (pv 7) pe_int (nomark _)) (pw_or1 (pt_cmpR op_gt (pe_op op_add (pe_callB call_len_seq (by rfl) T.n_len (by decide +kernel) (pa_cons (pv 4) pa_nil)) (pe_d D_l_deep (hr.mono (by decide)) (pa_cons (pv 5) pa_nil))) pe_int (nomark _)))))
    (pss_one (ps_set (i := 6) sc_l_spoiled.nd rfl (Or.inl rfl) (pv 8)))
    (pss_one (ps_if (PW.pt (pw_and (pt_cmpR op_eq (pv 7) pe_int (nomark _)) (pw_and1 (pt_cmpR op_gt (pe_callB call_len_seq (by rfl) T.n_len (by decide +kernel) (pa_cons (pv 2) pa_nil)) pe_int (nomark _)))))
      (pss_one (ps_set (i := 6) sc_l_spoiled.nd rfl (Or.inl rfl) (pe_ix ix_list (pv 2) (pe_d D_l_pick (hr.mono (by decide)) (pa_cons (pv 0) (pa_cons (pe_callB call_len_seq (by rfl) T.n_len (by decide +kernel) (pa_cons (pv 2) pa_nil)) pa_nil))) (fun _ _ => rfl))))
      (pss_one (ps_if (pt_cmpR op_eq (pv 7) pe_int (nomark _))
        (pss_one (ps_set (i := 6) sc_l_spoiled.nd rfl (Or.inl rfl) (pv 5)))
        (pss_one (ps_if (pt_val (pe_callB call_isiT (by rfl) T.n_isinstance (by decide +kernel) (pa_cons (pv 6) (pa_cons (pe_tup (pa_cons (pe_bltn (v := .ty "list") (by rfl) T.n_list (by decide +kernel) rfl) (pa_cons (pe_bltn (v := .ty "tuple") (by rfl) T.n_tuple (by decide +kernel) rfl) pa_nil))) pa_nil))))
          (pss_one (ps_set (i := 6) sc_l_spoiled.nd rfl (Or.inl rfl) (pe_d D_l_other_row (hr.mono (by decide)) (pa_cons (pv 0) (pa_cons (pv 6) pa_nil)))))
          (pss_one (ps_if (pt_val (pe_callB call_isi (by rfl) T.n_isinstance (by decide +kernel) (pa_cons (pv 6) (pa_cons (pe_bltn (v := .ty "str") (by rfl) T.n_str (by decide +kernel) rfl) pa_nil))))
            (pss_one (ps_set (i := 6) sc_l_spoiled.nd rfl (Or.inl rfl) (pe_d D_l_other_string (hr.mono (by decide)) (pa_cons (pv 0) (pa_cons (pv 6) pa_nil)))))
            (pss_one (ps_if (pt_val (pe_d D_l_integer (hr.mono (by decide)) (pa_cons (pv 6) pa_nil)))
              (pss_one (ps_set (i := 6) sc_l_spoiled.nd rfl (Or.inl rfl) (pe_d D_l_other_number (hr.mono (by decide)) (pa_cons (pv 0) (pa_cons (pv 6) pa_nil)))))
              (pss_one (ps_set (i := 6) sc_l_spoiled.nd rfl (Or.inl rfl) (pv 8))))))))))))))
  (pss_one (ps_ret (pe_d D_l_with (hr.mono (by decide)) (pa_cons (pv 1) (pa_cons (pv 4) (pa_cons (pv 6) pa_nil))))))))))))), ?_⟩
    refine ⟨_, rfl, (by show 0 ≤ sizeLine; decide), fun t0 ht0 => ?_⟩
    have g0 := Grow.new B.fh (.tup []) ht0
    refine ⟨_, v, t0, d, [], rfl, g0.fh, hv.same g0.ff, upd_same, by omega, by omega, by decide, fun L xs F1 H1 g1 eL tL => ?_⟩
    have B1 := (B.grow g0).grow g1
    have s01 := g0.ff.trans g1.ff
    have lx : xs.length = siz d := by rw [tL.len, List.length_map, paths_len]
    have pz := siz_pos d
    refine ⟨_, rfl, _, rfl, _, rfl, L, xs, rfl, .inl (.inl (.inl (B1.fh _ _ eL))), F1, b, _, rfl, by omega, by omega, B1, fun r1 H2 r10 r11 B2 => ?_⟩
    -- a path
    have pick : ∀ {r : Int}, 0 ≤ r → r < (xs.length : Int) → ∃ (p : List Nat) (a : Addr) (c : PyData), atI xs r = some (.ref a) ∧ F1 a = some (.tup (p.map fun i => V.int (i : Nat))) ∧ partAt d p = some c := fun {r} h0 h1 => by
      obtain ⟨j, rfl⟩ : ∃ j : Nat, r = (j : Int) := ⟨r.toNat, by omega⟩
      have hj : xs[j]? = some (xs[j]'(by omega)) := List.getElem?_eq_getElem _
      obtain ⟨e, he, te⟩ := tL.at hj
      rw [List.getElem?_map] at he
      obtain ⟨p, hp, rfl⟩ := Option.map_eq_some_iff.mp he
      obtain ⟨a, ys, ea, ha, ta⟩ := (show Tp F1 _ (.tuple (([] ++ p).map fun i => PyData.int (i : Nat))) from te).tuple
      rw [nats_inv ta] at ha
      obtain ⟨c, hc⟩ := paths_at d p (List.mem_of_getElem? hp)
      exact ⟨p, a, c, by rw [atI_nat hj, ea], ha, hc⟩
    obtain ⟨p1, a1, c1, x1, e1, hc1⟩ := pick r10 r11
    refine ⟨L, xs, r1, _, rfl, rfl, .inl (.inl (B2.fh _ _ eL)), x1, ?_⟩
    refine ⟨_, rfl, _, rfl, _, rfl, _, rfl, L, xs, rfl, .inl (.inl (.inl (B2.fh _ _ eL))), F1, b, _, rfl, by omega, by omega, B2, fun r2 H3 r20 r21 B3 => ?_⟩
    obtain ⟨p2, a2, c2, x2, e2, hc2⟩ := pick r20 r21
    have s3 := s01.trans B3.fh
    refine ⟨L, xs, r2, _, rfl, rfl, .inl (.inl (B3.fh _ _ eL)), x2, F1, v, a2, d, c2, p2, rfl, B3.fh, hv.same s01, e2, hc2, fun u2 t2 => ?_⟩
    refine ⟨_, rfl, _, rfl, F1, v, a1, d, c1, p1, rfl, B3.fh, hv.same s01, e1, hc1, fun u1 t1 => ?_⟩
    refine ⟨_, rfl, F1, b, 8, rfl, by decide, by decide, B3, fun r4 H4 r40 r41 B4 => ?_⟩
    refine ⟨_, rfl, F1, b, rfl, B4, fun u3 F2 H5 B5 s12 ⟨d3, t3, d3d, d3z, d3m⟩ => ?_⟩
    obtain ⟨w1, w2, w3⟩ := part_bd hc1
    obtain ⟨y1, y2, y3⟩ := part_bd hc2
    -- the other part
    refine ⟨fun σ' H' => ∃ u e F', σ' = [some (.ref b), some v, some (.ref q), some (.ref L), some (.ref a1), some u2, some u, some (.int r4), some u3] ∧ Bag F' H' b ∧ Same F2 F' ∧ Tp F' u e ∧ dep e ≤ max (dep d) 2 ∧ siz e ≤ 15 * siz d + 10 ∧ mst e ≤ 2 * mst d + 9, ?_, ?_⟩
    · have old : ∀ {H' : Hp}, Bag F2 H' b → ∃ u e F', ([some (.ref b), some v, some (.ref q), some (.ref L), some (.ref a1), some u2, some u3, some (.int r4), some u3] : L2.St) = [some (.ref b), some v, some (.ref q), some (.ref L), some (.ref a1), some u2, some u, some (.int r4), some u3] ∧ Bag F' H' b ∧ Same F2 F' ∧ Tp F' u e ∧ dep e ≤ max (dep d) 2 ∧ siz e ≤ 15 * siz d + 10 ∧ mst e ≤ 2 * mst d + 9 :=
        fun B => ⟨u3, d3, F2, rfl, B, Same.refl _, t3, by omega, by omega, by omega⟩
      have t2' := t2.same s12
      have t1' := t1.same s12
      have hq2 := (s01.trans s12) _ _ hq
      have ha2 := s12 _ _ e1
      refine ⟨_, rfl, rfl, _, rfl, ifd (fun _ => iteT ⟨_, rfl, old B5⟩) fun _ => ?_⟩
      refine ⟨_, rfl, a1, _, rfl, .inr (.inl (.inl (B5.fh _ _ ha2))), _, rfl, u2, c2, rfl, t2'.same B5.fh, by omega, by omega, fun H6 s6 => ⟨_, _, rfl, rfl, _, _, rfl, rfl, _, rfl, ?_⟩⟩
      have B6 := bag_same B5 s6
      refine ifd (fun _ => ⟨_, rfl, old B6⟩) fun _ => ?_
      -- a name
      refine ⟨_, rfl, rfl, _, rfl, ifd (fun _ => ?_) fun _ => iteF ?_⟩
      · refine ⟨_, rfl, q, _, rfl, .inl (.inl (.inl (B6.fh _ _ hq2))), _, _, rfl, rfl, _, rfl, ifd (fun _ => ?_) fun h => absurd (show (0 : Int) < ((ns.map V.str).length : Int) by rw [List.length_map]; omega) h⟩
        refine ⟨_, rfl, _, rfl, _, rfl, q, _, rfl, .inl (.inl (.inl (B6.fh _ _ hq2))), F2, b, _, rfl, by rw [List.length_map]; omega, by rw [List.length_map]; omega, B6, fun r7 H7 r70 r71 B7 => ?_⟩
        obtain ⟨x, hx, hm2⟩ := at_mem (xs := ns.map V.str) r70 r71
        obtain ⟨n, mn, rfl⟩ := List.mem_map.mp hm2
        have ln9 := nn n mn
        refine ⟨q, _, _, _, rfl, rfl, .inl (.inl (B7.fh _ _ hq2)), hx, .str n, .str n, F2, rfl, B7, Same.refl _, .str n, ?_, ?_, ?_⟩
        · show 0 ≤ _
          omega
        · show 1 ≤ _
          omega
        · show n.length ≤ _
          omega
      -- the other one
      refine ⟨_, rfl, rfl, _, rfl, ifd (fun _ => ⟨_, rfl, u2, c2, F2, rfl, B6, Same.refl _, t2', by omega, by omega, by omega⟩) fun _ => ?_⟩
      refine ⟨_, rfl, (by show 2 ≤ sizeLine; decide), fun tp htp => ?_⟩
      have B7 := bag_junk B6 (.tup [.ty "list", .ty "tuple"]) htp
      have up : (upd H6 tp (.tup [.ty "list", .ty "tuple"])) tp = some (.tup [.ty "list", .ty "tuple"]) := upd_same
      generalize upd H6 tp (.tup [.ty "list", .ty "tuple"]) = H7 at *
      have ty1 := (t1'.same B7.fh).ty (K := K)
      refine ⟨_, tp, _, _, _, _, rfl, up, clsLT, ty1, kitAny_row, _, rfl, ?_⟩
      cases er : isRowD c1 with
      | true =>
        refine iteT ⟨_, rfl, _, rfl, F2, b, u1, c1, rfl, B7, t1', er, by omega, fun u e F' H8 B8 s8 te near => ⟨u, e, F', rfl, B8, s8, te, ?_, ?_, ?_⟩⟩
        · have z := near.dp
          omega
        · have z := near.sz
          omega
        · have z := near.ms
          omega
      | false =>
        refine iteF ⟨_, rfl, _, _, _, _, _, rfl, .ty _, ty1, kit_ty (kit_d (by simp)), _, rfl, ?_⟩
        cases c1 with
        | list _ => cases er
        | tuple _ => cases er
        | str z =>
          obtain rfl := t1'.strI
          have lz : z.length ≤ mst d := w3
          refine iteT ⟨_, rfl, _, rfl, F2, b, z, rfl, B7, by omega, fun y F' H8 B8 s8 ly => ⟨_, .str y, F', rfl, B8, s8, .str y, ?_, ?_, ?_⟩⟩
          · show 0 ≤ _
            omega
          · show 1 ≤ _
            omega
          · show y.length ≤ _
            omega
        | int z =>
          obtain rfl := t1'.intI
          refine iteF ⟨_, rfl, _, .int z, rfl, .int z, _, rfl, iteT ⟨_, rfl, _, rfl, F2, b, z, rfl, B7, fun y F' H8 B8 s8 => ⟨_, .int y, F', rfl, B8, s8, .int y, ?_, ?_, ?_⟩⟩⟩
          · show 0 ≤ _
            omega
          · show 1 ≤ _
            omega
          · show 0 ≤ _
            omega
        | none => exact iteF ⟨_, rfl, _, _, rfl, t1'.same B7.fh, _, rfl, iteF ⟨_, rfl, old B7⟩⟩
        | bool _ => exact iteF ⟨_, rfl, _, _, rfl, t1'.same B7.fh, _, rfl, iteF ⟨_, rfl, old B7⟩⟩
        | dict _ => exact iteF ⟨_, rfl, _, _, rfl, t1'.same B7.fh, _, rfl, iteF ⟨_, rfl, old B7⟩⟩
    · rintro σ' H6 ⟨u, e, F3, rfl, B6, s23, te, ed, ez, em⟩
      have s03 := s01.trans (s12.trans s23)
      obtain ⟨z1, z2, z3⟩ := with_bd (e := e) hc1
      refine ⟨_, rfl, _, rfl, _, rfl, F3, v, u, a1, d, c1, e, p1, rfl, B6.fh, hv.same s03, (s12.trans s23) _ _ e1, te, hc1, by omega, by omega, by omega, fun y F4 H7 g ty => ?_⟩
      exact k y _ F4 H7 (B6.grow g) (s03.trans g.ff) ty (by omega) (by omega) (by omega)
end
end Fm

/-! ## FmUnl -/
set_option Elab.async false
set_option maxRecDepth 100000
set_option maxHeartbeats 4000000
/-! A text == anything of a tree. -/
namespace Fm
open PySem PySem.Spec PyProof.Rows L2
theorem sub_str_dict : isSubtype (Value.type "str") (Value.type "dict") = pure false := by rfl
theorem sub_dict_str : isSubtype (Value.type "dict") (Value.type "str") = pure false := by rfl
theorem str_eq_dict (b : Str) (u : Tok) (l : Addr) (es : Array DictEntry) (ep : Nat) :
    Meets (Builtin.«str.__eq__» ⟨[.str b u, .ref l], []⟩) (fun _ R s => s.heap.get? l = some { cls := .type "dict", dict := none, data := .dict es ep, slots := #[] } ∧ R (.ok (.ret Value.notImplemented)) s) :=
  .of_wp fun prog w A R s h => by
    obtain ⟨hp, g, d, tk, os⟩ := s
    obtain ⟨hl, q⟩ := h
    wp_walk using wpAny_loadPart' hl
    exact ⟨_, rfl, q⟩
theorem dict_eq_str (b : Str) (u : Tok) (l : Addr) (es : Array DictEntry) (ep : Nat) :
    Meets (Builtin.«dict.__eq__» ⟨[.ref l, .str b u], []⟩) (fun _ R s => s.heap.get? l = some { cls := .type "dict", dict := none, data := .dict es ep, slots := #[] } ∧ R (.ok (.ret Value.notImplemented)) s) :=
  .of_wp fun prog w A R s h => by
    obtain ⟨hp, g, d, tk, os⟩ := s
    obtain ⟨hl, q⟩ := h
    have f0 := sub_str_dict
    wp_walk using wpAny_loadPart' hl
    exact ⟨_, rfl, q⟩
/-- is it this text -/
def isStrD (s : Str) : PyData → Bool
  | .str z => decide (s = z)
  | _ => false
/-- a text == any tree -/
def rEqT : R2 := fun x y H Q => ∃ (s : Str) (d : PyData), x = .str s ∧ Tp H y d ∧ Q (.bl (isStrD s d)) H
theorem op_eqT {X : Cx} (hu : X.A.units + 64 < cLine) : OpR X (compareOp .Eq) rEqT := by
  intro pins s σ H x y v u Q I rx ry h
  obtain ⟨z, d, rfl, ht, q⟩ := h
  have hu1 : X.A.units < cLine := by omega
  have flat : ∀ {b : Bool}, scal (.str z) y = true → decide (V.str z = y) = b → Q (.bl b) H → wpAny (model X.prog X.w) X.A (compareOp .Eq v u) (EP X pins σ Q) X.xe s := fun {b} h1 h2 h3 => op_eq pins s σ H (.str z) y v u Q I rx ry ⟨h1, by rw [h2]; exact h3⟩
  cases ht with
  | non => exact flat rfl (decide_eq_false fun e => nomatch e) q
  | bl b => exact flat rfl (decide_eq_false fun e => nomatch e) q
  | int i => exact flat rfl (decide_eq_false fun e => nomatch e) q
  | str w => exact flat rfl (by show decide (V.str z = V.str w) = decide (z = w); exact decide_eq_decide.mpr ⟨V.str.inj, fun e => by rw [e]⟩) q
  | @lst a xs ds hx ha =>
    obtain ⟨t, rfl⟩ := rx
    cases ry
    obtain ⟨its, r, pl, hs⟩ := I.list (.inl (.inl hx))
    obtain ⟨⟨cls, dd, data, sl⟩, ho, hcl, n, hd⟩ : s.heap.IsList a its.toArray := by first | exact pl.isList | exact pl.list | exact pl.1 | (obtain ⟨o, h1, h2, h3, h4⟩ := pl; exact ⟨o, h1, h2, h4⟩) | (obtain ⟨o, h1, h2, h3⟩ := pl; exact ⟨o, h1, h2, h3⟩)
    simp only at hcl hd
    subst hcl hd
    exact SeqAt.rc_eq_decline_or (typeIs_str s z t) ⟨_, ho, rfl⟩ (by decide) F.sub_list_str F.slot_str_eq F.slot_list_eq_refl (fun Q' q' => call_meets F.slot_str_eq (typeIs_str s z t) F.entry_str_eq (F.args_str_eq_2 _ _) (SeqAt.str_eq_declines_seq_str z t a _ _ _ _ _) ⟨ho, q'⟩)
      (fun Q' q' => call_meets F.slot_list_eq ⟨_, ho, rfl⟩ F.entry_list_eq (F.args_list_eq_2 _ _) (SeqAt.list_eq_declines_str a _ _ _ _ z t) ⟨ho, q'⟩) (fun Q' q' => wpAny_pure q') (.inr hu1) ⟨.bl false, H, I, rfl, q⟩
  | @tup a xs ds hx ha =>
    obtain ⟨t, rfl⟩ := rx
    cases ry
    obtain ⟨its, r, ⟨⟨cls, dd, data, sl⟩, ho, hcl, n, hd⟩, hs⟩ := I.tuple (.inl (.inl hx))
    simp only at hcl hd
    subst hcl hd
    exact SeqAt.rc_eq_decline_or (typeIs_str s z t) ⟨_, ho, rfl⟩ (by decide) F.sub_tuple_str F.slot_str_eq F.slot_tuple_eq_refl (fun Q' q' => call_meets F.slot_str_eq (typeIs_str s z t) F.entry_str_eq (F.args_str_eq_2 _ _) (SeqAt.str_eq_declines_seq_str z t a _ _ _ _ _) ⟨ho, q'⟩)
      (fun Q' q' => call_meets F.slot_tuple_eq ⟨_, ho, rfl⟩ F.entry_tuple_eq (F.args_tuple_eq_2 _ _) (SeqAt.tuple_eq_declines_str a _ _ _ _ z t) ⟨ho, q'⟩) (fun Q' q' => wpAny_pure q') (.inr hu1) ⟨.bl false, H, I, rfl, q⟩
  | @dct a b hb =>
    obtain ⟨t, rfl⟩ := rx
    cases ry
    obtain ⟨kvs, hk⟩ : ∃ kvs, H a = some (.dK kvs) := by
      cases b with
      | true =>
        obtain ⟨l, h1, _⟩ := (show ∃ l, H a = some (.dK [(Sum.inr "a", .ref l)]) ∧ H l = some (.lst [.int 1]) from hb)
        exact ⟨_, h1⟩
      | false => exact ⟨_, hb⟩
    obtain ⟨_, _, vs, _, o, es, ep, ho, ⟨hc, hd, hsl⟩, hda, _⟩ := dk_of I.hok hk
    obtain ⟨cls, dd, data, sl⟩ := o
    simp only at hc hd hsl hda
    subst hc hd hsl hda
    exact SeqAt.rc_eq_decline_or (typeIs_str s z t) ⟨_, ho, rfl⟩ (by decide) sub_dict_str F.slot_str_eq F.slot_dict_eq_refl (fun Q' q' => call_meets F.slot_str_eq (typeIs_str s z t) F.entry_str_eq (F.args_str_eq_2 _ _) (str_eq_dict z t a _ _) ⟨ho, q'⟩)
      (fun Q' q' => call_meets F.slot_dict_eq ⟨_, ho, rfl⟩ F.entry_dict_eq (F.args_dict_eq_2 _ _) (dict_eq_str z t a _ _) ⟨ho, q'⟩) (fun Q' q' => wpAny_pure q') (.inr hu1) ⟨.bl false, H, I, rfl, q⟩
end Fm

/-! ## FmIn -/
set_option Elab.async false
set_option maxRecDepth 100000
set_option maxHeartbeats 4000000
/-! Anything of a tree in a row of texts; anything of a tree != a text. -/
namespace Fm
open PySem PySem.Spec PyProof.Rows L2
theorem str_ne_dict (b : Str) (u : Tok) (l : Addr) (es : Array DictEntry) (ep : Nat) :
    Meets (Builtin.«str.__ne__» ⟨[.str b u, .ref l], []⟩) (fun _ R s => s.heap.get? l = some { cls := .type "dict", dict := none, data := .dict es ep, slots := #[] } ∧ R (.ok (.ret Value.notImplemented)) s) :=
  .of_wp fun prog w A R s h => by
    obtain ⟨hp, g, d, tk, os⟩ := s
    obtain ⟨hl, q⟩ := h
    wp_walk using wpAny_loadPart' hl
    exact ⟨_, rfl, q⟩
theorem dict_ne_str (b : Str) (u : Tok) (l : Addr) (es : Array DictEntry) (ep : Nat) :
    Meets (Builtin.«dict.__ne__» ⟨[.ref l, .str b u], []⟩) (fun _ R s => s.heap.get? l = some { cls := .type "dict", dict := none, data := .dict es ep, slots := #[] } ∧ R (.ok (.ret Value.notImplemented)) s) :=
  .of_wp fun prog w A R s h => by
    obtain ⟨hp, g, d, tk, os⟩ := s
    obtain ⟨hl, q⟩ := h
    have f0 := sub_str_dict
    wp_walk using wpAny_loadPart' hl
    exact ⟨_, rfl, q⟩
/-- a dict of a tree, as the heap has it -/
theorem dl_heap {X : Cx} {pins : List (Addr × Obj)} {σ : L2.St} {H : Hp} {s : Shared} (I : Inv X pins σ H s) {a : Addr} {b : Bool} (hb : Dl H a b) : ∃ es ep, s.heap.get? a = some { cls := .type "dict", dict := none, data := .dict es ep, slots := #[] } := by
  obtain ⟨kvs, hk⟩ : ∃ kvs, H a = some (.dK kvs) := by
    cases b with
    | true =>
      obtain ⟨l, h1, _⟩ := (show ∃ l, H a = some (.dK [(Sum.inr "a", .ref l)]) ∧ H l = some (.lst [.int 1]) from hb)
      exact ⟨_, h1⟩
    | false => exact ⟨_, hb⟩
  obtain ⟨_, _, vs, _, o, es, ep, ho, ⟨hc, hd, hsl⟩, hda, _⟩ := dk_of I.hok hk
  obtain ⟨cls, dd, data, sl⟩ := o
  simp only at hc hd hsl hda
  subst hc hd hsl hda
  exact ⟨es, ep, ho⟩
theorem eqAtT {X : Cx} {pins : List (Addr × Obj)} {σ : L2.St} {H : Hp} {s : Shared} {A : Around} (I : Inv X pins σ H s) (hu : A.units < cLine) {x : V} {v : Value} {d : PyData} (ht : Tp H x d) (rx : RelV x v) (z : Str) (t : Tok) : SeqAt.EqAt A s (.str z t) v (isStrD z d) := by
  cases ht with
  | non => cases rx; exact SeqAt.EqAt.str_none z t
  | bl b => cases rx; exact SeqAt.EqAt.str_bool z t b
  | int i => obtain ⟨t', rfl⟩ := rx; exact SeqAt.EqAt.str_int z t i t'
  | str w =>
    obtain ⟨t', rfl⟩ := rx
    have e : (z == w) = isStrD z (.str w) := by
      show (z == w) = decide (z = w)
      by_cases q : z = w
      · rw [q, decide_eq_true rfl]
        exact beq_self_eq_true w
      · rw [decide_eq_false q]
        exact beq_eq_false_iff_ne.mpr q
    rw [← e]
    exact SeqAt.EqAt.str_str z t w t'
  | @lst a xs ds hx ha =>
    cases rx
    obtain ⟨its, r, pl, hs⟩ := I.list (.inl (.inl hx))
    exact SeqAt.EqAt.str_list z t pl.isList hu
  | @tup a xs ds hx ha =>
    cases rx
    obtain ⟨its, r, pl, hs⟩ := I.tuple (.inl (.inl hx))
    exact SeqAt.EqAt.str_tuple z t pl hu
  | @dct a b hb =>
    cases rx
    obtain ⟨es, ep, ho⟩ := dl_heap I hb
    intro prog w E Q h
    unfold eqBool
    refine wpAny_holding ?_
    refine wpAny_ite_split (fun hab => absurd (eq_of_beq hab) nofun) (fun _ => ?_)
    refine wpAny_bind ?_
    exact SeqAt.rc_eq_decline_or (k := false) (typeIs_str s z t) ⟨_, ho, rfl⟩ (by decide) sub_dict_str F.slot_str_eq F.slot_dict_eq_refl (fun Q' q' => call_meets F.slot_str_eq (typeIs_str s z t) F.entry_str_eq (F.args_str_eq_2 _ _) (str_eq_dict z t a _ _) ⟨ho, q'⟩)
      (fun Q' q' => call_meets F.slot_dict_eq ⟨_, ho, rfl⟩ F.entry_dict_eq (F.args_dict_eq_2 _ _) (dict_eq_str z t a _ _) ⟨ho, q'⟩) (fun Q' q' => wpAny_pure q') (.inr hu) (wpAny_truthy_bool (by cases b <;> exact h))
/-- is it one of these texts -/
def inS (d : PyData) (ns : List Str) : Bool := ns.any fun z => isStrD z d
def eqS (d : PyData) : Value → Bool
  | .str z _ => isStrD z d
  | _ => false
theorem any_eqS {d : PyData} : ∀ {ns : List Str} {us : List Value}, Vals (ns.map V.str) us → us.any (eqS d) = inS d ns
  | [], _, .nil => rfl
  | z :: ns, _, .cons r t => by
    obtain ⟨t', rfl⟩ := r
    show (isStrD z d || _) = (isStrD z d || inS d ns)
    rw [any_eqS t]
theorem mem_eqS {X : Cx} {pins : List (Addr × Obj)} {σ : L2.St} {H : Hp} {s : Shared} {A : Around} (I : Inv X pins σ H s) (hu : A.units < cLine) {x : V} {v : Value} {d : PyData} (ht : Tp H x d) (rx : RelV x v) : ∀ {ns : List Str} {us : List Value}, Vals (ns.map V.str) us → ∀ u ∈ us, SeqAt.EqAt A s u v (eqS d u)
  | [], _, .nil => fun u hu => by cases hu
  | z :: ns, _, .cons r t => fun u' hu' => by
    obtain ⟨t', rfl⟩ := r
    rcases List.mem_cons.mp hu' with rfl | hu'
    · exact eqAtT I hu ht rx z t'
    · exact mem_eqS I hu ht rx t u' hu'
/-- x in a row of texts, x anything -/
def rInT (K : PySem.W.Frag) (neg : Bool) : R2 := fun x y H Q => ∃ p ns d, y = .ref p ∧ (SqL K H p (ns.map V.str) ∨ SqT K H p (ns.map V.str)) ∧ Tp H x d ∧ Q (.bl (if neg then !inS d ns else inS d ns)) H
theorem op_inT {X : Cx} {K : PySem.W.Frag} (hu : X.A.units + 64 < cLine) (hK : X.K = K := by rfl) : OpR X (compareOp .In) (rInT K false) := by
  intro pins s σ H x y v u Q I rx ry h
  subst hK
  obtain ⟨p, ns, d, rfl, hq, ht, q⟩ := h
  cases ry
  have hu1 : X.A.in1.units < cLine := by show X.A.units + 1 < cLine; omega
  rcases hq with hq | hq
  · obtain ⟨its, r, pl, hz⟩ := I.list hq
    refine SeqAt.in_listAt (eqS d) pl.isList (fun w hw => mem_eqS I hu1 ht rx r w (by simpa using hw)) ⟨.bl _, H, I, rfl, ?_⟩
    rw [show its.toArray.any (eqS d) = its.any (eqS d) by simp, any_eqS r]
    exact q
  · obtain ⟨its, r, pl, hz⟩ := I.tuple hq
    refine SeqAt.in_tupleAt (eqS d) pl (fun w hw => mem_eqS I hu1 ht rx r w (by simpa using hw)) ⟨.bl _, H, I, rfl, ?_⟩
    rw [show its.toArray.any (eqS d) = its.any (eqS d) by simp, any_eqS r]
    exact q
theorem op_notInT {X : Cx} {K : PySem.W.Frag} (hu : X.A.units + 64 < cLine) (hK : X.K = K := by rfl) : OpR X (compareOp .NotIn) (rInT K true) := by
  intro pins s σ H x y v u Q I rx ry h
  subst hK
  obtain ⟨p, ns, d, rfl, hq, ht, q⟩ := h
  cases ry
  have hu1 : X.A.in1.units < cLine := by show X.A.units + 1 < cLine; omega
  rcases hq with hq | hq
  · obtain ⟨its, r, pl, hz⟩ := I.list hq
    refine SeqAt.notIn_listAt (eqS d) pl.isList (fun w hw => mem_eqS I hu1 ht rx r w (by simpa using hw)) ⟨.bl _, H, I, rfl, ?_⟩
    rw [show its.toArray.any (eqS d) = its.any (eqS d) by simp, any_eqS r]
    exact q
  · obtain ⟨its, r, pl, hz⟩ := I.tuple hq
    refine SeqAt.notIn_tupleAt (eqS d) pl (fun w hw => mem_eqS I hu1 ht rx r w (by simpa using hw)) ⟨.bl _, H, I, rfl, ?_⟩
    rw [show its.toArray.any (eqS d) = its.any (eqS d) by simp, any_eqS r]
    exact q
/-- anything != a text -/
def rNeT : R2 := fun x y H Q => ∃ (d : PyData) (z : Str), Tp H x d ∧ y = .str z ∧ Q (.bl (!isStrD z d)) H
theorem op_neT {X : Cx} (hu : X.A.units + 64 < cLine) : OpR X (compareOp .NotEq) rNeT := by
  intro pins s σ H x y v u Q I rx ry h
  obtain ⟨d, z, ht, rfl, q⟩ := h
  have hu1 : X.A.units < cLine := by omega
  have flat : ∀ {b : Bool}, scal x (.str z) = true → decide (x = V.str z) = b → Q (.bl (!b)) H → wpAny (model X.prog X.w) X.A (compareOp .NotEq v u) (EP X pins σ Q) X.xe s := fun {b} h1 h2 h3 => op_ne pins s σ H x (.str z) v u Q I rx ry ⟨h1, by rw [h2]; exact h3⟩
  cases ht with
  | non => exact flat rfl (decide_eq_false fun e => nomatch e) q
  | bl b => exact flat rfl (decide_eq_false fun e => nomatch e) q
  | int i => exact flat rfl (decide_eq_false fun e => nomatch e) q
  | str w => exact flat rfl (by show decide (V.str w = V.str z) = decide (z = w); exact decide_eq_decide.mpr ⟨fun e => (V.str.inj e).symm, fun e => by rw [e]⟩) q
  | @lst a xs ds hx ha =>
    obtain ⟨t, rfl⟩ := ry
    cases rx
    obtain ⟨its, r, pl, hs⟩ := I.list (.inl (.inl hx))
    exact SeqAt.RcNeAt.list_str z t pl.isList hu1 X.prog X.w _ _ ⟨.bl true, H, I, rfl, q⟩
  | @tup a xs ds hx ha =>
    obtain ⟨t, rfl⟩ := ry
    cases rx
    obtain ⟨its, r, pl, hs⟩ := I.tuple (.inl (.inl hx))
    exact SeqAt.RcNeAt.tuple_str z t pl hu1 X.prog X.w _ _ ⟨.bl true, H, I, rfl, q⟩
  | @dct a b hb =>
    obtain ⟨t, rfl⟩ := ry
    cases rx
    obtain ⟨es, ep, ho⟩ := dl_heap I hb
    exact SeqAt.rc_ne_decline_or (k := false) ⟨_, ho, rfl⟩ (typeIs_str s z t) (by decide) sub_str_dict F.slot_dict_ne F.slot_str_ne_refl (fun Q' q' => call_meets F.slot_dict_ne ⟨_, ho, rfl⟩ F.entry_dict_ne (F.args_dict_ne_2 _ _) (dict_ne_str z t a _ _) ⟨ho, q'⟩)
      (fun Q' q' => call_meets F.slot_str_ne (typeIs_str s z t) F.entry_str_ne (F.args_str_ne_2 _ _) (str_ne_dict z t a _ _) ⟨ho, q'⟩) (fun Q' q' => wpAny_pure q') (.inr hu1) ⟨.bl true, H, I, rfl, by cases b <;> exact q⟩
/-- a tuple == () -/
def rEq0 (K : PySem.W.Frag) : R2 := fun x y H Q => ∃ a b xs, x = .ref a ∧ y = .ref b ∧ H a = some (.tup xs) ∧ H b = some (.tup []) ∧ Q (.bl (xs.isEmpty)) H
theorem op_eq0 {X : Cx} (hu : X.A.units + 64 < cLine) : OpR X (compareOp .Eq) (rEq0 X.K) := by
  intro pins s σ H x y v u Q I rx ry h
  obtain ⟨a, b, xs, rfl, rfl, ha, hb, q⟩ := h
  cases rx
  cases ry
  obtain ⟨its, r, pl, _⟩ := I.tuple (.inl (.inl ha))
  obtain ⟨its2, r2, pl2, _⟩ := I.tuple (.inl (.inl hb))
  cases r2
  have e : ((List.range (min its.toArray.size ([] : List Value).toArray.size)).all (fun _ => true) && its.toArray.size == ([] : List Value).toArray.size) = xs.isEmpty := by
    cases r with
    | nil => rfl
    | cons _ _ => simp
  refine SeqAt.RcAt.tuples (e := fun _ => true) pl pl2 (by omega) (fun j h1 h2 => absurd h2 (Nat.not_lt_zero _)) X.prog X.w _ _ ⟨.bl xs.isEmpty, H, I, ?_, q⟩
  rw [e]
  rfl
/-- a tuple != () -/
def rNe0 : R2 := fun x y H Q => ∃ a b xs, x = .ref a ∧ y = .ref b ∧ H a = some (.tup xs) ∧ H b = some (.tup []) ∧ Q (.bl (!xs.isEmpty)) H
theorem op_ne0 {X : Cx} (hu : X.A.units + 64 < cLine) : OpR X (compareOp .NotEq) rNe0 := by
  intro pins s σ H x y v u Q I rx ry h
  obtain ⟨a, b, xs, rfl, rfl, ha, hb, q⟩ := h
  cases rx
  cases ry
  obtain ⟨its, r, pl, _⟩ := I.tuple (.inl (.inl ha))
  obtain ⟨its2, r2, pl2, _⟩ := I.tuple (.inl (.inl hb))
  cases r2
  have e : ((List.range (min its.toArray.size ([] : List Value).toArray.size)).all (fun _ => true) && its.toArray.size == ([] : List Value).toArray.size) = xs.isEmpty := by
    cases r with
    | nil => rfl
    | cons _ _ => simp
  refine SeqAt.RcNeAt.tuples (e := fun _ => true) pl pl2 (by omega) (fun j h1 h2 => absurd h2 (Nat.not_lt_zero _)) X.prog X.w _ _ ⟨.bl (!xs.isEmpty), H, I, ?_, q⟩
  rw [e]
  rfl
end Fm

/-! ## K08S -/
set_option Elab.async false
set_option maxRecDepth 100000
set_option maxHeartbeats 4000000
namespace Fm
open PySem L2
/-- how many parts a statement of this kind has -/
def partsN (z : Str) : Option Nat := if z = "scan" then some 4 else if z = "run" then some 5 else if z = "seek" then some 6 else if z = "each" then some 4 else if z = "rise" then some 5 else if z = "look" then some 5 else if z = "same" then some 4 else if z = "put" then some 4 else none
/-- what the top has left of names, for programs -/
structure TxG (K : PySem.W.Frag) (w : World) (mg : Str → Option Value) (CG CRd PD : Addr) : Prop where
  g_Program : mg "Program" = some (.ref CG)
  g_PARTS : mg "PARTS" = some (.ref PD)
  kd : ∃ es n, KDict K w PD es n
  pn : ∀ z, partsN z = none → PySem.W.nsIn K PD z = some none
  py : ∀ z k, partsN z = some k → ∃ t, PySem.W.nsIn K PD z = some (some (.int (k : Nat) t))
  clG : Cls K CG
  clR : Cls K CRd
  rSh : NoAttr K CRd "shape"
  rBl : NoAttr K CRd "blocks"
  rMa : NoAttr K CRd "many"
  rTo : NoAttr K CRd "tops"
  rAs : NoAttr K CRd "asked"
  gSh : NoAttr K CG "shape"
  gBl : NoAttr K CG "blocks"
  gBo : NoAttr K CG "body"
/-! ### rows of values -/
def isValD : PyData → Bool
  | .int i => decide (-1000000000 ≤ i) && decide (i ≤ 1000000000)
  | _ => false
section
variable {P : Program} {w : World} {K : PySem.W.Frag} {mg : Str → Option Value} {base : Heap} {CS CG CRd PD : Addr}
def spIsInt : Sp := fun vs H Q _ => ∃ (v : V) (d : PyData), vs = [v] ∧ Tp H v d ∧ Q (.bl (isIntD d)) H
abbrev s_is_integer : Stmt := topS 4
abbrev sc_is_integerN : List Str := ["thing"]
abbrev ps_is_integer : List Str := ["thing"]
theorem sc_is_integer : FnScope sc_is_integerN ps_is_integer (defScope s_is_integer) := ⟨rfl, rfl, rfl, by decide +kernel, rfl, by decide +kernel, by decide +kernel⟩
theorem ok_is_integer {f : Addr} {fd : FuncData} (F : Fun K "is_integer" "is_integer" s_is_integer f fd) (T : Txt K mg CS) : FnOk P w K mg base CX0 1 f fd ps_is_integer spIsInt := by
  refine F.ok sc_is_integer (fun vs H Q E h => ?_) (fun cdv A outer s H vs Q E hr h => ?_)
  · obtain ⟨_, _, rfl, _⟩ := h
    rfl
  · obtain ⟨v, d, rfl, hv, k⟩ := h
    refine ⟨_, (pss_one (ps_ret (pe_and (pe_callB call_isi (by rfl) T.n_isinstance (by decide +kernel) (pa_cons (pv 0) (pa_cons (pe_bltn (v := .ty "int") (by rfl) T.n_int (by decide +kernel) rfl) pa_nil))) (pe_one (pe_not (pe_callB call_isi (by rfl) T.n_isinstance (by decide +kernel) (pa_cons (pv 0) (pa_cons (pe_bltn (v := .ty "bool") (by rfl) T.n_bool (by decide +kernel) rfl) pa_nil)))))))), ?_⟩
    have ty := hv.ty (K := K)
    refine ⟨_, rfl, _, _, _, _, _, rfl, .ty _, ty, kit_ty (kit_d (by simp)), _, rfl, ?_⟩
    cases d with
    | int i => exact iteT ⟨_, rfl, _, _, _, _, _, rfl, .ty _, ty, kit_ty (kit_d (by simp)), _, rfl, k⟩
    | bool b => exact iteT ⟨_, rfl, _, _, _, _, _, rfl, .ty _, ty, kit_ty (kit_d (by simp)), _, rfl, k⟩
    | none => exact iteF k
    | str _ => exact iteF k
    | list _ => exact iteF k
    | tuple _ => exact iteF k
    | dict _ => exact iteF k
def spIsVal : Sp := fun vs H Q _ => ∃ (v : V) (d : PyData), vs = [v] ∧ Tp H v d ∧ Q (.bl (isValD d)) H
abbrev s_is_value : Stmt := topS 5
abbrev sc_is_valueN : List Str := ["thing"]
abbrev ps_is_value : List Str := ["thing"]
theorem sc_is_value : FnScope sc_is_valueN ps_is_value (defScope s_is_value) := ⟨rfl, rfl, rfl, by decide +kernel, rfl, by decide +kernel, by decide +kernel⟩
theorem ok_is_value {f : Addr} {fd : FuncData} (F : Fun K "is_value" "is_value" s_is_value f fd) (T : Txt K mg CS) (D_is_integer : Df P w K mg base "is_integer" 1 ps_is_integer spIsInt) : FnOk P w K mg base CX0 2 f fd ps_is_value spIsVal := by
  refine F.ok sc_is_value (fun vs H Q E h => ?_) (fun cdv A outer s H vs Q E hr h => ?_)
  · obtain ⟨_, _, rfl, _⟩ := h
    rfl
  · obtain ⟨v, d, rfl, hv, k⟩ := h
    refine ⟨_, (pss_one (ps_ret (pe_and (pe_d D_is_integer (hr.mono (by decide)) (pa_cons (pv 0) pa_nil)) (pe_one (pe_chain op_le op_le (pe_un un_neg (pe_gI T.g_LARGEST_VALUE)) (pv 0) (pe_gI T.g_LARGEST_VALUE)))))), ?_⟩
    refine ⟨_, rfl, v, d, rfl, hv, _, rfl, ?_⟩
    cases d with
    | int i =>
      rw [hv.intI] at *
      refine iteT ?_
      refine ⟨_, rfl, _, rfl, _, _, rfl, rfl, _, rfl, ifd (fun h1 => ?_) fun h1 => ?_⟩
      · refine ⟨_, _, rfl, rfl, ?_⟩
        have z : isValD (.int i) = decide (i ≤ 1000000000) := by
          show (decide (-1000000000 ≤ i) && decide (i ≤ 1000000000)) = _
          rw [decide_eq_true h1]
          rfl
        rw [z] at k
        exact k
      · have z : isValD (.int i) = false := by
          show (decide (-1000000000 ≤ i) && decide (i ≤ 1000000000)) = _
          rw [decide_eq_false h1]
          rfl
        rw [z] at k
        exact k
    | _ => exact iteF k
/-- a whole number from -1000 to 1000, not 0 -/
def multD : PyData → Bool
  | .int i => decide (i ≠ 0) && (decide (-1000 ≤ i) && decide (i ≤ 1000))
  | _ => false
def spMult : Sp := fun vs H Q _ => ∃ (v : V) (d : PyData), vs = [v] ∧ Tp H v d ∧ Q (.bl (multD d)) H
abbrev s_is_multiple : Stmt := topS 48
abbrev sc_is_multipleN : List Str := ["thing"]
abbrev ps_is_multiple : List Str := ["thing"]
theorem sc_is_multiple : FnScope sc_is_multipleN ps_is_multiple (defScope s_is_multiple) := ⟨rfl, rfl, rfl, by decide +kernel, rfl, by decide +kernel, by decide +kernel⟩
theorem ok_is_multiple {f : Addr} {fd : FuncData} (F : Fun K "is_multiple" "is_multiple" s_is_multiple f fd) (T : Txt K mg CS) (D_is_integer : Df P w K mg base "is_integer" 1 ps_is_integer spIsInt) : FnOk P w K mg base CX0 2 f fd ps_is_multiple spMult := by
  refine F.ok sc_is_multiple (fun vs H Q E h => ?_) (fun cdv A outer s H vs Q E hr h => ?_)
  · obtain ⟨_, _, rfl, _⟩ := h
    rfl
  · obtain ⟨v, d, rfl, hv, k⟩ := h
    refine ⟨_, (pss_one (ps_ret (pe_and (pe_d D_is_integer (hr.mono (by decide)) (pa_cons (pv 0) pa_nil)) (pe_and (pe_cmpR op_ne (pv 0) pe_int (nomark _)) (pe_one (pe_chain op_le op_le (pe_un un_neg (pe_gI T.g_LARGEST_MULTIPLE)) (pv 0) (pe_gI T.g_LARGEST_MULTIPLE))))))), ?_⟩
    refine ⟨_, rfl, v, d, rfl, hv, _, rfl, ?_⟩
    cases d with
    | int i =>
      rw [hv.intI] at *
      have k : Q (.bl (decide (i ≠ 0) && (decide (-1000 ≤ i) && decide (i ≤ 1000)))) H := k
      refine iteT ?_
      refine ⟨_, rfl, rfl, _, rfl, ifn (fun h0 => ?_) fun h0 => ?_⟩
      · have hi : i ≠ 0 := fun z => h0 (by rw [z])
        rw [decide_eq_true hi] at k
        refine ⟨_, rfl, _, rfl, _, _, rfl, rfl, _, rfl, ifd (fun h1 => ?_) fun h1 => ?_⟩
        · refine ⟨_, _, rfl, rfl, ?_⟩
          rw [decide_eq_true h1] at k
          exact k
        · rw [decide_eq_false h1] at k
          exact k
      · have hi : ¬ i ≠ 0 := fun z => z (V.int.inj h0)
        rw [decide_eq_false hi] at k
        exact k
    | _ => exact iteF k
end
end Fm

/-! ## K08T -/
set_option Elab.async false
set_option maxRecDepth 100000
set_option maxHeartbeats 8000000
namespace Fm
open PySem L2
theorem strs_inv {H : Hp} : ∀ {p : List Str} {xs : List V}, TpAll H xs (p.map PyData.str) → xs = p.map V.str
  | [], _, h => by cases h; rfl
  | s :: p, _, h => by
    cases h with
    | cons h1 h2 =>
      rw [h1.strI, strs_inv h2]
      rfl
theorem tab_in {H : Hp} {v : V} {t : Tab} (h : Tp H v (tabD false t)) : ∃ a c, v = .ref a ∧ H a = some (.tup [.str t.1, .ref c]) ∧ H c = some (.tup (t.2.map V.str)) := by
  obtain ⟨a, xs, rfl, ha, ta⟩ := (show Tp H v (.tuple [.str t.1, .tuple (t.2.map PyData.str)]) from h).tuple
  cases ta with
  | cons h1 h2 =>
    cases h2 with
    | cons h3 h4 =>
      cases h4
      obtain ⟨c, ys, rfl, hc, tc⟩ := h3.tuple
      rw [strs_inv tc] at hc
      rw [h1.strI] at ha
      exact ⟨a, c, rfl, ha, hc⟩
/-- the tables of a shape -/
def tsD (ts : List Tab) : PyData := .tuple (ts.map (tabD false))
/-! ### what stands around: names, each with its fields and its sums -/
abbrev Env := List (Str × List Str × List Str)
def envAt (e : Env) (v : Str) : Option (List Str × List Str) := (e.find? fun p => decide (p.1 = v)).map (·.2)
/-- fields and sums, a tuple of two tuples -/
def FsAt (H : Hp) (v : V) (p : List Str × List Str) : Prop := ∃ a fa sa, v = .ref a ∧ H a = some (.tup [.ref fa, .ref sa]) ∧ H fa = some (.tup (p.1.map V.str)) ∧ H sa = some (.tup (p.2.map V.str))
def EnvP (H : Hp) (kv : Key × V) (p : Str × List Str × List Str) : Prop := kv.1 = .inr p.1 ∧ FsAt H kv.2 p.2
def EnvAt (H : Hp) (a : Addr) (e : Env) : Prop := ∃ kvs, H a = some (.dK kvs) ∧ Paired (EnvP H) kvs e
theorem FsAt.same {H H' : Hp} {v : V} {p : List Str × List Str} (h : FsAt H v p) (s : Same H H') : FsAt H' v p := by
  obtain ⟨a, fa, sa, h0, h1, h2, h3⟩ := h
  exact ⟨a, fa, sa, h0, s _ _ h1, s _ _ h2, s _ _ h3⟩
theorem envP_same {H H' : Hp} (s : Same H H') : ∀ {kvs : List (Key × V)} {e : Env}, Paired (EnvP H) kvs e → Paired (EnvP H') kvs e
  | _, _, .nil => .nil
  | _, _, .cons ⟨h1, h2⟩ t => .cons ⟨h1, h2.same s⟩ (envP_same s t)
theorem EnvAt.same {H H' : Hp} {a : Addr} {e : Env} (h : EnvAt H a e) (s : Same H H') : EnvAt H' a e := by
  obtain ⟨kvs, h1, h2⟩ := h
  exact ⟨kvs, s _ _ h1, envP_same s h2⟩
theorem env_val {H : Hp} (v : Str) : ∀ {kvs : List (Key × V)} {e : Env}, Paired (EnvP H) kvs e → (envAt e v = none ∧ valV kvs (Sum.inr v : Key) = none) ∨ ∃ p x, envAt e v = some p ∧ valV kvs (Sum.inr v : Key) = some x ∧ FsAt H x p
  | _, _, .nil => .inl ⟨rfl, rfl⟩
  | kv :: kvs, p :: e, .cons ⟨h1, h2⟩ t => by
    unfold envAt
    by_cases q : p.1 = v
    · rw [List.find?_cons_of_pos (by simp [q]), valV_pos (show kv.1 = Sum.inr v by rw [h1, q])]
      exact .inr ⟨p.2, kv.2, rfl, rfl, h2⟩
    · rw [List.find?_cons_of_neg (by simp [q]), valV_neg (show ¬ kv.1 = Sum.inr v by rw [h1]; exact fun z => q (Sum.inr.inj z))]
      exact env_val v t
theorem env_len {H : Hp} {kvs : List (Key × V)} {e : Env} (h : Paired (EnvP H) kvs e) : kvs.length = e.length := by
  induction h with
  | nil => rfl
  | cons _ _ ih => rw [List.length_cons, List.length_cons, ih]
theorem env_at {H : Hp} : ∀ {kvs : List (Key × V)} {e : Env} {i : Nat} {k : Key} {v : V}, Paired (EnvP H) kvs e → kvs[i]? = some (k, v) → ∃ p, e[i]? = some p ∧ k = .inr p.1 ∧ FsAt H v p.2
  | _, _, _, _, _, .nil, h => by cases h
  | _, _, 0, _, _, .cons h1 _, h => by
    cases h
    exact ⟨_, rfl, h1.1, h1.2⟩
  | _, _, i + 1, _, _, .cons _ t, h => by
    rw [List.getElem?_cons_succ] at h
    obtain ⟨p, q1, q2⟩ := env_at t h
    exact ⟨p, by rw [List.getElem?_cons_succ]; exact q1, q2⟩
/-! ### what is right, over trees -/
def placeD (e : Env) : PyData → Bool
  | .tuple [a, .str s, c] => isStrD "of" a && (isNm s && (match envAt e s with | some p => inS c p.1 || inS c p.2 | none => false))
  | _ => false
def fieldD (e : Env) : PyData → Bool
  | .tuple [_, .str s, c] => (match envAt e s with | some p => inS c p.1 | none => false)
  | _ => false
def termD (e : Env) (d : PyData) : Bool := if placeD e d = true then fieldD e d else isValD d
def termsD (e : Env) (n : Nat) (d : PyData) : Bool := rowD3 n n d && (partsD d).all (termD e)
def sumOfD (p : Str × List Str × List Str) : PyData → Bool
  | .tuple [_, b, c] => isStrD p.1 b && inS c p.2.2
  | _ => false
def prodD (e : Env) : PyData → Bool
  | .tuple [m, fs] => multD m && (rowD3 0 3 fs && ((partsD fs).all (placeD e) && e.all fun p => p.2.2.isEmpty || (partsD fs).any (sumOfD p)))
  | _ => false
def prodsD (e : Env) (d : PyData) : Bool := rowD3 0 4 d && (partsD d).all (prodD e)
/-- the fields of the table with this name -/
def foT (ts : List Tab) (d : PyData) : List Str := match ts.find? fun t => isStrD t.1 d with | some t => t.2 | none => []
/-- whether a thing has the parts of a statement -/
def hasPD : PyData → Bool
  | .tuple (.str z :: ds) => decide (partsN z = some (ds.length + 1))
  | _ => false
section
variable {P : Program} {w : World} {K : PySem.W.Frag} {mg : Str → Option Value} {base : Heap} {CS CG CRd PD : Addr}
def spHasP : Sp := fun vs H Q _ => ∃ (v : V) (d : PyData), vs = [v] ∧ Tp H v d ∧ ∀ H', Same H H' → Q (.bl (hasPD d)) H'
abbrev s_has_parts : Stmt := topS 40
abbrev sc_has_partsN : List Str := ["thing"]
abbrev ps_has_parts : List Str := ["thing"]
theorem sc_has_parts : FnScope sc_has_partsN ps_has_parts (defScope s_has_parts) := ⟨rfl, rfl, rfl, by decide +kernel, rfl, by decide +kernel, by decide +kernel⟩
theorem ok_has_parts {f : Addr} {fd : FuncData} (F : Fun K "has_parts" "has_parts" s_has_parts f fd) (T : Txt K mg CS) (G : TxG K w mg CG CRd PD) : FnOk P w K mg base CX0 1 f fd ps_has_parts spHasP := by
  refine F.ok sc_has_parts (fun vs H Q E h => ?_) (fun cdv A outer s H vs Q E hr h => ?_)
  · obtain ⟨_, _, rfl, _⟩ := h
    rfl
  · obtain ⟨v, d, rfl, hv, k⟩ := h
    obtain ⟨es, n, kd⟩ := G.kd
    refine ⟨_, (pss_cons (ps_if (PW.pt (pw_or (pt_not (pt_val (pe_callB call_isi (by rfl) T.n_isinstance (by decide +kernel) (pa_cons (pv 0) (pa_cons (pe_bltn (v := .ty "tuple") (by rfl) T.n_tuple (by decide +kernel) rfl) pa_nil))))) (pw_or (pt_cmpR (op_eq0 hr.units) (pv 0) (pe_tup pa_nil) (nomark _)) (pw_or1 (pt_not (pt_val (pe_callB call_isi (by rfl) T.n_isinstance (by decide +kernel) (pa_cons (pe_ix ix_tup (pv 0) pe_int (fun _ _ => rfl)) (pa_cons (pe_bltn (v := .ty "str") (by rfl) T.n_str (by decide +kernel) rfl) pa_nil)))))))))
    (pss_one (ps_ret pe_bl))
    pss_nil)
  (pss_one (ps_ret (pe_and (pe_cmpR (op_in_kd kd) (pe_ix ix_tup (pv 0) pe_int (fun _ _ => rfl)) (pe_glob (v := .ref PD) rfl G.g_PARTS rfl) (by rfl)) (pe_one (pe_cmpR op_eq (pe_callB call_len_seq (by rfl) T.n_len (by decide +kernel) (pa_cons (pv 0) pa_nil)) (pe_ix ix_kdict (pe_glob (v := .ref PD) rfl G.g_PARTS rfl) (pe_ix ix_tup (pv 0) pe_int (fun _ _ => rfl)) (fun _ _ => rfl)) (nomark _))))))), ?_⟩
    refine ⟨_, rfl, _, _, _, _, _, rfl, .ty _, hv.ty (K := K), kit_ty (kit_d (by simp)), _, rfl, ?_⟩
    cases d with
    | tuple ds =>
      obtain ⟨a, xs, rfl, ha, ta⟩ := hv.tuple
      refine iteF ⟨_, rfl, (by show 0 ≤ sizeLine; decide), fun tp htp => ?_⟩
      have s1 : Same H (upd H tp (.tup [])) := same_new _ htp
      refine ⟨a, tp, xs, rfl, rfl, s1 _ _ ha, upd_same, _, rfl, ?_⟩
      have k := fun H' s => k H' (s1.trans s)
      have ha := s1 _ _ ha
      have ta := ta.same s1
      generalize upd H tp (.tup []) = H1 at *
      cases ta with
      | nil => exact iteT (k _ (Same.refl _))
      | @cons x vs d ds h1 h2 =>
        refine iteF ⟨_, rfl, a, _, 0, x, rfl, rfl, .inl (.inl ha), atI_nat (show (x :: vs)[0]? = some x from rfl), _, _, _, _, _, rfl, .ty _, h1.ty (K := K), kit_ty (kit_d (by simp)), _, rfl, ?_⟩
        cases d with
        | str z =>
          obtain rfl : x = V.str z := h1.strI
          refine iteF ?_
          have l2 := h2.len
          have k : Q (.bl (decide (partsN z = some (ds.length + 1)))) H1 := k _ (Same.refl _)
          refine ⟨_, rfl, a, _, 0, _, rfl, rfl, .inl (.inl ha), atI_nat (show (V.str z :: vs)[0]? = some (V.str z) from rfl), ?_⟩
          cases e : partsN z with
          | none =>
            rw [e] at k
            refine ⟨z, none, rfl, rfl, G.pn z e, _, rfl, iteF ?_⟩
            exact k
          | some m =>
            obtain ⟨t, ht⟩ := G.py z m e
            rw [e] at k
            refine ⟨z, _, rfl, rfl, ht, _, rfl, iteT ?_⟩
            refine ⟨_, rfl, a, _, rfl, .inr (.inl (.inl ha)), _, rfl, a, _, 0, _, rfl, rfl, .inl (.inl ha), atI_nat (show (V.str z :: vs)[0]? = some (V.str z) from rfl), PD, z, .int (m : Nat), rfl, rfl, ⟨es, n, _, kd.at_, kd.lit, ht, ⟨t, rfl⟩⟩, rfl, ?_⟩
            have e2 : decide (V.int ((V.str z :: vs).length : Nat) = V.int (m : Nat)) = decide (some m = some (ds.length + 1)) := by
              rw [List.length_cons, l2]
              exact decide_eq_decide.mpr ⟨fun q => by rw [Int.ofNat.inj (V.int.inj q)], fun q => by rw [Option.some.inj q]⟩
            show Q (V.bl (decide (V.int ((V.str z :: vs).length : Nat) = V.int (m : Nat)))) H1
            rw [e2]
            exact k
        | none => exact iteT (k _ (Same.refl _))
        | bool _ => exact iteT (k _ (Same.refl _))
        | int _ => exact iteT (k _ (Same.refl _))
        | list _ => exact iteT (k _ (Same.refl _))
        | tuple _ => exact iteT (k _ (Same.refl _))
        | dict _ => exact iteT (k _ (Same.refl _))
    | none => exact iteT (k _ (Same.refl _))
    | bool _ => exact iteT (k _ (Same.refl _))
    | int _ => exact iteT (k _ (Same.refl _))
    | str _ => exact iteT (k _ (Same.refl _))
    | list _ => exact iteT (k _ (Same.refl _))
    | dict _ => exact iteT (k _ (Same.refl _))
def overE (z : Str) : Bool := decide (z = "each") || (decide (z = "rise") || decide (z = "look"))
def spOver : Sp := fun vs H Q _ => ∃ z : Str, vs = [.str z] ∧ ∀ H', Same H H' → Q (.bl (overE z)) H'
abbrev s_goes_over_entries : Stmt := topS 41
abbrev sc_goes_over_entriesN : List Str := ["kind"]
abbrev ps_goes_over_entries : List Str := ["kind"]
theorem sc_goes_over_entries : FnScope sc_goes_over_entriesN ps_goes_over_entries (defScope s_goes_over_entries) := ⟨rfl, rfl, rfl, by decide +kernel, rfl, by decide +kernel, by decide +kernel⟩
theorem ok_goes_over_entries {f : Addr} {fd : FuncData} (F : Fun K "goes_over_entries" "goes_over_entries" s_goes_over_entries f fd) (T : Txt K mg CS) : FnOk P w K mg base CX0 1 f fd ps_goes_over_entries spOver := by
  refine F.ok sc_goes_over_entries (fun vs H Q E h => ?_) (fun cdv A outer s H vs Q E hr h => ?_)
  · obtain ⟨_, rfl, _⟩ := h
    rfl
  · obtain ⟨z, rfl, k⟩ := h
    refine ⟨_, (pss_one (ps_ret (pe_cmpR op_in_seq (pv 0) (pe_tup (pa_cons pe_str (pa_cons pe_str (pa_cons pe_str pa_nil)))) (by rfl)))), ?_⟩
    refine ⟨_, rfl, (by show 3 ≤ sizeLine; decide), fun tp htp => ?_⟩
    refine ⟨tp, _, rfl, .inr (.inl (.inl upd_same)), rfl, rfl, ?_⟩
    have e : inV (V.str z) ([("each" : Str), "rise", "look"].map V.str) = overE z := by
      rw [inV_str]
      unfold overE
      by_cases h1 : z = "each"
      · simp [h1]
      · by_cases h2 : z = "rise"
        · simp [h2]
        · by_cases h3 : z = "look" <;> simp [h1, h2, h3]
    show Q (V.bl (inV (V.str z) ([("each" : Str), "rise", "look"].map V.str))) _
    rw [e]
    exact k _ (same_new _ htp)
def spFoT (CS : Addr) : Sp := fun vs H Q _ => ∃ (x : Addr) (v : V) (d : PyData) (ts : List Tab), vs = [.ref x, v] ∧ ShT CS H x (tsD ts) ∧ Tp H v d ∧ ∀ p H', Same H H' → H' p = some (.tup ((foT ts d).map V.str)) → Q (.ref p) H'
abbrev s_fields_of_table : Stmt := topS 42
abbrev sc_fields_of_tableN : List Str := ["shape", "thing", "table", "fields"]
abbrev ps_fields_of_table : List Str := ["shape", "thing"]
theorem sc_fields_of_table : FnScope sc_fields_of_tableN ps_fields_of_table (defScope s_fields_of_table) := ⟨rfl, rfl, rfl, by decide +kernel, rfl, by decide +kernel, by decide +kernel⟩
theorem ok_fields_of_table {f : Addr} {fd : FuncData} (F : Fun K "fields_of_table" "fields_of_table" s_fields_of_table f fd) (T : Txt K mg CS) : FnOk P w K mg base CX0 1 f fd ps_fields_of_table (spFoT CS) := by
  refine F.ok sc_fields_of_table (fun vs H Q E h => ?_) (fun cdv A outer s H vs Q E hr h => ?_)
  · obtain ⟨_, _, _, _, rfl, _⟩ := h
    rfl
  · obtain ⟨x, v, d, ts, rfl, shA, hv, k⟩ := h
    obtain ⟨dx, tv, hsh, dtv⟩ := shA
    refine ⟨_, (pss_cons (ps_for PassesOwn.never rfl (pi_tup (pe_fld (pv 0) rfl)) (pg_tup (by rfl) (pgs_cons (pg_name (i := 2) sc_fields_of_table.nd rfl (Or.inl rfl)) (pgs_cons (pg_name (i := 3) sc_fields_of_table.nd rfl (Or.inl rfl)) pgs_nil)))
    (pss_one (ps_if (pt_cmpR (op_eqT hr.units) (pv 2) (pv 1) (nomark _))
      (pss_one (ps_ret (pv 3)))
      pss_nil)))
  (pss_one (ps_ret (pe_tup pa_nil)))), ?_⟩
    obtain ⟨tpl, txs, rfl, htp0, hd⟩ := (show Tp H tv (.tuple (ts.map (tabD false))) from dtv).tuple
    have htp : SqT K H tpl txs := .inl (.inl htp0)
    have lx : txs.length = ts.length := by rw [hd.len, List.length_map]
    refine ⟨_, rfl, x, CS, dx, _, _, rfl, hsh, T.cl, T.nT, rfl, tpl, rfl, ⟨_, htp⟩, for_it walk_tup (fun i σ H' => ∃ v2 v3, σ = [some (.ref x), some v, v2, v3] ∧ H = H' ∧ (ts.take i).find? (fun t => isStrD t.1 d) = none)
      ⟨_, _, rfl, rfl, rfl⟩ (fun i σ H' _ z => by obtain ⟨_, _, _, rfl, _⟩ := z; exact htp) ?_ ?_⟩
    · rintro i y σ H5 H6 hi ⟨v2, v3, rfl, rfl, inv⟩ ⟨rfl, hx⟩
      obtain ⟨c, hc, hxc⟩ := hd.at hx
      rw [List.getElem?_map] at hc
      obtain ⟨t, ht, rfl⟩ := Option.map_eq_some_iff.mp hc
      obtain ⟨p, q, rfl, hp, hq⟩ := tab_in hxc
      refine ⟨p, _, rfl, .inl (.inl hp), rfl, _, _, rfl, _, _, rfl, rfl, ?_⟩
      refine ⟨_, rfl, _, rfl, t.1, d, rfl, hv, _, rfl, ?_⟩
      have tk : (ts.take (i + 1)).find? (fun t => isStrD t.1 d) = if isStrD t.1 d = true then some t else none := by
        rw [List.take_add_one, ht, List.find?_append, inv, Option.none_or]
        show [t].find? _ = _
        cases e : isStrD t.1 d with
        | true => rw [List.find?_cons_of_pos (by exact e)]; rfl
        | false => rw [List.find?_cons_of_neg (by rw [e]; exact Bool.false_ne_true)]; rfl
      cases e : isStrD t.1 d with
      | true =>
        rw [e, if_pos rfl] at tk
        have fd : ts.find? (fun t => isStrD t.1 d) = some t := by
          conv => lhs; rw [← List.take_append_drop (i + 1) ts]
          rw [List.find?_append, tk]
          rfl
        have k := k q _ (Same.refl _)
        unfold foT at k
        rw [fd] at k
        exact iteT ⟨_, rfl, k hq⟩
      | false =>
        rw [e] at tk
        exact iteF ⟨_, _, rfl, rfl, tk⟩
    · rintro σ H5 ⟨v2, v3, rfl, rfl, inv⟩
      rw [lx, List.take_length] at inv
      refine ⟨(by show 0 ≤ sizeLine; decide), fun p hp => ?_⟩
      have ef : foT ts d = [] := by
        unfold foT
        rw [inv]
      rw [ef] at k
      exact k p _ (same_new _ hp) upd_same
end
end Fm

/-! ## K08U -/
set_option Elab.async false
set_option maxRecDepth 100000
set_option maxHeartbeats 8000000
namespace Fm
open PySem L2
theorem tup3 {d : PyData} (h : tupD 3 d = true) : ∃ a b c, d = .tuple [a, b, c] := by
  cases d with
  | tuple ds => match ds, h with
    | [], e => cases e
    | [_], e => cases e
    | [_, _], e => cases e
    | [a, b, c], _ => exact ⟨a, b, c, rfl⟩
    | _ :: _ :: _ :: _ :: _, e => cases e
  | _ => cases h
theorem tup2 {d : PyData} (h : tupD 2 d = true) : ∃ a b, d = .tuple [a, b] := by
  cases d with
  | tuple ds => match ds, h with
    | [], e => cases e
    | [_], e => cases e
    | [a, b], _ => exact ⟨a, b, rfl⟩
    | _ :: _ :: _ :: _, e => cases e
  | _ => cases h
theorem place_no3 {e : Env} {d : PyData} (h : tupD 3 d = false) : placeD e d = false := by
  cases d with
  | tuple ds => match ds, h with
    | [], _ => rfl
    | [_], _ => rfl
    | [_, _], _ => simp [placeD]
    | [_, _, _], h => cases h
    | _ :: _ :: _ :: _ :: _, _ => simp [placeD]
  | _ => rfl
theorem tp3 {H : Hp} {v : V} {a b c : PyData} (h : Tp H v (.tuple [a, b, c])) : ∃ p x y z, v = .ref p ∧ H p = some (.tup [x, y, z]) ∧ Tp H x a ∧ Tp H y b ∧ Tp H z c := by
  obtain ⟨p, xs, rfl, hp, t⟩ := h.tuple
  cases t with
  | cons h1 t => cases t with
    | cons h2 t => cases t with
      | cons h3 t =>
        cases t
        exact ⟨p, _, _, _, rfl, hp, h1, h2, h3⟩
theorem tp2 {H : Hp} {v : V} {a b : PyData} (h : Tp H v (.tuple [a, b])) : ∃ p x y, v = .ref p ∧ H p = some (.tup [x, y]) ∧ Tp H x a ∧ Tp H y b := by
  obtain ⟨p, xs, rfl, hp, t⟩ := h.tuple
  cases t with
  | cons h1 t => cases t with
    | cons h2 t =>
      cases t
      exact ⟨p, _, _, rfl, hp, h1, h2⟩
theorem ix0 {x : V} {xs : List V} : atI (x :: xs) 0 = some x := atI_nat (j := 0) rfl
theorem ix1 {x y : V} {xs : List V} : atI (x :: y :: xs) 1 = some y := atI_nat (j := 1) rfl
theorem ix2 {x y z : V} {xs : List V} : atI (x :: y :: z :: xs) 2 = some z := atI_nat (j := 2) rfl
theorem nmD_str {d : PyData} (h : isNmD d = true) : ∃ s, d = .str s ∧ isNm s = true := by
  cases d with
  | str s => exact ⟨s, rfl, h⟩
  | _ => cases h
section
variable {P : Program} {w : World} {K : PySem.W.Frag} {mg : Str → Option Value} {base : Heap} {CS CG CRd PD : Addr}
def spPlace : Sp := fun vs H Q _ => ∃ (v : V) (ar : Addr) (d : PyData) (e : Env), vs = [v, .ref ar] ∧ Tp H v d ∧ EnvAt H ar e ∧ mst d ≤ 100000 ∧ e.length ≤ 1000 ∧ ∀ H', Same H H' → Q (.bl (placeD e d)) H'
abbrev s_is_place : Stmt := topS 45
abbrev sc_is_placeN : List Str := ["thing", "around", "fields", "sums"]
abbrev ps_is_place : List Str := ["thing", "around"]
theorem sc_is_place : FnScope sc_is_placeN ps_is_place (defScope s_is_place) := ⟨rfl, rfl, rfl, by decide +kernel, rfl, by decide +kernel, by decide +kernel⟩
theorem ok_is_place {f : Addr} {fd : FuncData} (F : Fun K "is_place" "is_place" s_is_place f fd) (T : Txt K mg CS) (D_is_tuple : Df P w K mg base "is_tuple" 1 ps_is_tuple (spIsTuple K)) (D_is_name : Df P w K mg base "is_name" 1 ps_is_name (spIsName K)) : FnOk P w K mg base CX0 2 f fd ps_is_place spPlace := by
  refine F.ok sc_is_place (fun vs H Q E h => ?_) (fun cdv A outer s H vs Q E hr h => ?_)
  · obtain ⟨_, _, _, _, rfl, _⟩ := h
    rfl
  · obtain ⟨v, ar, d, e, rfl, hv, he, hm, le, k⟩ := h
    refine ⟨_, (pss_cons (ps_if (PW.pt (pw_or (pt_not (pt_val (pe_d D_is_tuple (hr.mono (by decide)) (pa_cons (pv 0) (pa_cons pe_int pa_nil))))) (pw_or (pt_cmpR (op_neT hr.units) (pe_ix ix_tup (pv 0) pe_int (fun _ _ => rfl)) pe_str (nomark _)) (pw_or (pt_not (pt_val (pe_d D_is_name (hr.mono (by decide)) (pa_cons (pe_ix ix_tup (pv 0) pe_int (fun _ _ => rfl)) pa_nil)))) (pw_or1 (pt_cmp (pc_dnotin (Nat.lt_of_le_of_lt (Nat.add_le_add_left (by decide) _) hr.units) (pe_ix ix_tup (pv 0) pe_int (fun _ _ => rfl)) (pv 1)) (by rfl)))))))
    (pss_one (ps_ret pe_bl))
    pss_nil)
  (pss_cons (ps_asg (pe_dget (Nat.lt_of_le_of_lt (Nat.add_le_add_left (by decide) _) hr.units) (pv 1) (pe_ix ix_tup (pv 0) pe_int (fun _ _ => rfl)) (fun _ _ => rfl)) (pg_tup (by rfl) (pgs_cons (pg_name (i := 2) sc_is_place.nd rfl (Or.inl rfl)) (pgs_cons (pg_name (i := 3) sc_is_place.nd rfl (Or.inl rfl)) pgs_nil))))
  (pss_one (ps_ret (pe_or (pe_cmpR (op_inT hr.units) (pe_ix ix_tup (pv 0) pe_int (fun _ _ => rfl)) (pv 2) (by rfl)) (pe_one (pe_cmpR (op_inT hr.units) (pe_ix ix_tup (pv 0) pe_int (fun _ _ => rfl)) (pv 3) (by rfl)))))))), ?_⟩
    refine ⟨_, rfl, v, d, 3, rfl, hv, _, rfl, ?_⟩
    cases h3 : tupD 3 d with
    | false =>
      rw [place_no3 h3] at k
      exact iteT (k _ (Same.refl _))
    | true =>
      obtain ⟨a, b, c, rfl⟩ := tup3 h3
      obtain ⟨p, x, y, z, rfl, hp, h1, h2, h4⟩ := tp3 hv
      have mb := mst_mem (ds := [a, b, c]) (d := b) (by simp)
      have hm2 : mstL [a, b, c] ≤ 100000 := hm
      refine iteF ⟨_, rfl, p, _, 0, _, rfl, rfl, .inl (.inl hp), ix0, a, "of", h1, rfl, _, rfl, ?_⟩
      cases ea : isStrD "of" a with
      | false =>
        have e0 : placeD e (.tuple [a, b, c]) = false := by
          cases b with
          | str s => show (isStrD "of" a && _) = false; rw [ea]; rfl
          | _ => rfl
        rw [e0] at k
        exact iteT (k _ (Same.refl _))
      | true =>
        refine iteF ⟨_, rfl, p, _, 1, _, rfl, rfl, .inl (.inl hp), ix1, y, isNmD b, rfl, nm_case h2 (by omega), fun H1 s1 => ⟨_, rfl, ?_⟩⟩
        cases eb : isNmD b with
        | false =>
          have e0 : placeD e (.tuple [a, b, c]) = false := by
            cases b with
            | str s =>
              have eb : isNm s = false := eb
              show (isStrD "of" a && (isNm s && _)) = false
              rw [ea, eb]
              rfl
            | _ => rfl
          rw [e0] at k
          exact iteT (k _ s1)
        | true =>
          obtain ⟨s, rfl, es⟩ := nmD_str eb
          obtain rfl : y = V.str s := h2.strI
          have ep : placeD e (.tuple [a, .str s, c]) = (match envAt e s with | some p => inS c p.1 || inS c p.2 | none => false) := by
            show (isStrD "of" a && (isNm s && _)) = _
            rw [ea, es]
            rfl
          rw [ep] at k
          have hp1 := s1 _ _ hp
          obtain ⟨kvs, hk, pe⟩ := he.same s1
          refine iteF ⟨_, rfl, p, _, 1, _, rfl, rfl, .inl (.inl hp1), ix1, _, rfl, ar, valV kvs (Sum.inr s : Key), rfl, .inl ⟨_, Sum.inr s, .inl hk, rfl, rfl⟩, _, rfl, ?_⟩
          rcases env_val s pe with ⟨q1, q2⟩ | ⟨fs, xv, q1, q2, ga, fa, sa, rfl, g1, g2, g3⟩
          · rw [q2]
            rw [q1] at k
            exact iteT (k _ s1)
          · rw [q2]
            rw [q1] at k
            refine iteF ⟨_, rfl, _, rfl, p, _, 1, _, rfl, rfl, .inl (.inl hp1), ix1, ar, _, rfl, .inl ⟨_, Sum.inr s, .inl hk, rfl, q2.symm⟩, ?_⟩
            refine ⟨ga, _, rfl, .inl (.inl g1), rfl, _, _, rfl, _, _, rfl, rfl, ?_⟩
            refine ⟨_, rfl, p, _, 2, _, rfl, rfl, .inl (.inl hp1), ix2, _, rfl, fa, fs.1, c, rfl, .inr (.inl (.inl g2)), h4.same s1, ?_⟩
            have k : ∀ H', Same H H' → Q (.bl (inS c fs.1 || inS c fs.2)) H' := k
            refine ⟨inS c fs.1, rfl, ?_⟩
            cases e1 : inS c fs.1 with
            | true =>
              rw [e1] at k
              exact iteT (k _ s1)
            | false =>
              rw [e1] at k
              exact iteF ⟨_, rfl, p, _, 2, _, rfl, rfl, .inl (.inl hp1), ix2, _, rfl, sa, fs.2, c, rfl, .inr (.inl (.inl g3)), h4.same s1, k _ s1⟩
theorem place_yes {e : Env} {d : PyData} (h : placeD e d = true) : ∃ a s c fs, d = .tuple [a, .str s, c] ∧ envAt e s = some fs ∧ (inS c fs.1 || inS c fs.2) = true := by
  have h3 : tupD 3 d = true := by
    cases q : tupD 3 d with
    | true => rfl
    | false => rw [place_no3 q] at h; cases h
  obtain ⟨a, b, c, rfl⟩ := tup3 h3
  cases b with
  | str s =>
    have h : (isStrD "of" a && (isNm s && (match envAt e s with | some p => inS c p.1 || inS c p.2 | none => false))) = true := h
    rw [Bool.and_eq_true, Bool.and_eq_true] at h
    cases q : envAt e s with
    | none => rw [q] at h; exact absurd h.2.2 Bool.false_ne_true
    | some fs => rw [q] at h; exact ⟨a, s, c, fs, rfl, q, h.2.2⟩
  | _ => cases h
def spTerm : Sp := fun vs H Q _ => ∃ (v : V) (ar : Addr) (d : PyData) (e : Env), vs = [v, .ref ar] ∧ Tp H v d ∧ EnvAt H ar e ∧ mst d ≤ 100000 ∧ e.length ≤ 1000 ∧ ∀ H', Same H H' → Q (.bl (termD e d)) H'
abbrev s_is_term : Stmt := topS 43
abbrev sc_is_termN : List Str := ["thing", "around"]
abbrev ps_is_term : List Str := ["thing", "around"]
theorem sc_is_term : FnScope sc_is_termN ps_is_term (defScope s_is_term) := ⟨rfl, rfl, rfl, by decide +kernel, rfl, by decide +kernel, by decide +kernel⟩
theorem ok_is_term {f : Addr} {fd : FuncData} (F : Fun K "is_term" "is_term" s_is_term f fd) (T : Txt K mg CS) (D_is_place : Df P w K mg base "is_place" 2 ps_is_place spPlace) (D_is_value : Df P w K mg base "is_value" 2 ps_is_value spIsVal) : FnOk P w K mg base CX0 3 f fd ps_is_term spTerm := by
  refine F.ok sc_is_term (fun vs H Q E h => ?_) (fun cdv A outer s H vs Q E hr h => ?_)
  · obtain ⟨_, _, _, _, rfl, _⟩ := h
    rfl
  · obtain ⟨v, ar, d, e, rfl, hv, he, hm, le, k⟩ := h
    refine ⟨_, (pss_cons (ps_if (pt_not (pt_val (pe_d D_is_place (hr.mono (by decide)) (pa_cons (pv 0) (pa_cons (pv 1) pa_nil)))))
    (pss_one (ps_ret (pe_d D_is_value (hr.mono (by decide)) (pa_cons (pv 0) pa_nil))))
    pss_nil)
  (pss_one (ps_ret (pe_cmpR (op_inT hr.units) (pe_ix ix_tup (pv 0) pe_int (fun _ _ => rfl)) (pe_ix ix_tup (pe_dget (Nat.lt_of_le_of_lt (Nat.add_le_add_left (by decide) _) hr.units) (pv 1) (pe_ix ix_tup (pv 0) pe_int (fun _ _ => rfl)) (fun _ _ => rfl)) pe_int (fun _ _ => rfl)) (by rfl))))), ?_⟩
    refine ⟨_, rfl, _, rfl, v, ar, d, e, rfl, hv, he, hm, le, fun H1 s1 => ⟨_, rfl, ?_⟩⟩
    unfold termD at k
    cases ep : placeD e d with
    | false =>
      rw [ep, if_neg Bool.false_ne_true] at k
      exact iteT ⟨_, rfl, v, d, rfl, hv.same s1, k _ s1⟩
    | true =>
      rw [ep, if_pos rfl] at k
      obtain ⟨a, s, c, fs, rfl, eq, _⟩ := place_yes ep
      obtain ⟨p, x, y, z, rfl, hp, h1, h2, h4⟩ := tp3 (hv.same s1)
      obtain rfl : y = V.str s := h2.strI
      have k : ∀ H', Same H H' → Q (.bl (inS c fs.1)) H' := fun H' q => by
        have z := k H' q
        have e2 : fieldD e (.tuple [a, .str s, c]) = inS c fs.1 := by
          show (match envAt e s with | some p => inS c p.1 | none => false) = _
          rw [eq]
        rw [e2] at z
        exact z
      obtain ⟨kvs, hk, pe⟩ := he.same s1
      rcases env_val s pe with ⟨q1, q2⟩ | ⟨fs', xv, q1, q2, ga, fa, sa, rfl, g1, g2, g3⟩
      · rw [eq] at q1; cases q1
      · rw [eq] at q1
        cases q1
        exact iteF ⟨_, rfl, p, _, 2, _, rfl, rfl, .inl (.inl hp), ix2, _, rfl, _, rfl, p, _, 1, _, rfl, rfl, .inl (.inl hp), ix1, ar, _, rfl, .inl ⟨_, Sum.inr s, .inl hk, rfl, q2.symm⟩, ga, _, 0, _, rfl, rfl, .inl (.inl g1), ix0, fa, fs.1, c, rfl, .inr (.inl (.inl g2)), h4, k _ s1⟩
def spTerms : Sp := fun vs H Q _ => ∃ (v : V) (n : Nat) (ar : Addr) (d : PyData) (e : Env), vs = [v, .int n, .ref ar] ∧ Tp H v d ∧ EnvAt H ar e ∧ mst d ≤ 100000 ∧ siz d ≤ 100000 ∧ e.length ≤ 1000 ∧ ∀ H', Same H H' → Q (.bl (termsD e n d)) H'
abbrev s_are_terms : Stmt := topS 44
abbrev sc_are_termsN : List Str := ["thing", "many", "around", "term"]
abbrev ps_are_terms : List Str := ["thing", "many", "around"]
theorem sc_are_terms : FnScope sc_are_termsN ps_are_terms (defScope s_are_terms) := ⟨rfl, rfl, rfl, by decide +kernel, rfl, by decide +kernel, by decide +kernel⟩
theorem ok_are_terms {f : Addr} {fd : FuncData} (F : Fun K "are_terms" "are_terms" s_are_terms f fd) (T : Txt K mg CS) (D_is_row : Df P w K mg base "is_row" 1 ps_is_row (spIsRow K)) (D_is_term : Df P w K mg base "is_term" 3 ps_is_term spTerm) : FnOk P w K mg base CX0 4 f fd ps_are_terms spTerms := by
  refine F.ok sc_are_terms (fun vs H Q E h => ?_) (fun cdv A outer s H vs Q E hr h => ?_)
  · obtain ⟨_, _, _, _, _, rfl, _⟩ := h
    rfl
  · obtain ⟨v, n, ar, d, e, rfl, hv, he, hm, hz, le, k⟩ := h
    refine ⟨_, (pss_one (ps_ret (pe_and (pe_d D_is_row (hr.mono (by decide)) (pa_cons (pv 0) (pa_cons (pv 1) (pa_cons (pv 1) pa_nil)))) (pe_one (pe_callB (cr_all (by rfl)) (by rfl) T.n_all (by decide +kernel) (pa_cons (pe_lc (own := [("term", 3)]) (g := gName 3) (tt := tYes) (by rfl) sc_are_terms.nd (pi_any (pv 0)) (blkOk_by (own := [("term", 3)]) (N := sc_are_termsN) (sc := defScope s_are_terms) (by decide +kernel)) (fun _ _ _ _ _ => pg_name (i := 3) sc_are_terms.nd rfl (Or.inl rfl)) (fun _ _ _ _ _ => pts_nil) (fun _ _ _ _ _ => (pe_d D_is_term (hr.mono (by decide)) (pa_cons (pv 3) (pa_cons (pv 2) pa_nil))))) pa_nil)))))), ?_⟩
    refine ⟨_, rfl, _, rfl, _, rfl, v, d, n, n, rfl, hv, fun H1 s1 => ⟨_, rfl, ?_⟩⟩
    unfold termsD at k
    cases er : rowD3 n n d with
    | false =>
      rw [er] at k
      exact iteF (k _ s1)
    | true =>
      rw [er] at k
      have e1 : isRowD d = true := by
        unfold rowD3 at er
        simp only [Bool.and_eq_true] at er
        exact er.1.1
      obtain ⟨a, xs, rfl, hx, ha⟩ := (hv.same s1).row e1
      have ls := siz_len (partsD d)
      rw [siz_row e1] at hz
      rw [mst_row e1] at hm
      refine iteT ⟨_, rfl, a, xs, rfl, any_of (K := K) (rw_sq hx) (Same.refl _) fun J G gm wk => (fun D hD => ?_)⟩
      refine lc_it wk (fun i H' => Same H1 H' ∧ H' D = some (.lst (((partsD d).take i).map fun c => V.bl (termD e c)))) ⟨same_new _ hD, by rw [upd_same]; rfl⟩ (fun i H' _ z => gm H' z.1) ?_ ?_
      · rintro i x H2 H3 hi2 ⟨s2, d2⟩ ⟨rfl, hxi⟩
        obtain ⟨c, hc, hcv⟩ := ha.at hxi
        have mc := mst_mem (List.mem_of_getElem? hc)
        refine ⟨rfl, _, rfl, _, rfl, x, ar, c, e, rfl, hcv.same s2, (he.same s1).same s2, by omega, le, fun H4 s4 => ?_⟩
        refine ⟨_, s4 _ _ d2, take_lt _ (by omega), same_put (s2.trans s4) _ hD, ?_⟩
        rw [upd_same, map_take _ hc]
      · rintro H2 ⟨s2, d2⟩
        rw [ha.len, List.take_length, bl_map (f := termD e)] at d2
        refine ⟨D, _, rfl, .inl (.inl d2), ?_⟩
        rw [List.all_map]
        exact k _ (s1.trans s2)
end
end Fm

/-! ## K08V -/
set_option Elab.async false
set_option maxRecDepth 100000
set_option maxHeartbeats 8000000
namespace Fm
open PySem L2
theorem unlock_same {H H' : Hp} {a : Addr} {od : Obj} {u : HO} (h : H a = some u) (s : Same (upd H a (.frz od u)) H') : Same H (upd H' a u) := fun b o e => by
  by_cases z : b = a
  · rw [z, upd_same]
    rw [z, h] at e
    exact e
  · rw [upd_ne z]
    exact s b o (by rw [upd_ne z]; exact e)
theorem lock_in {H : Hp} {a b : Addr} {od : Obj} {u o : HO} (n : b ≠ a) (h : H b = some o) : (upd H a (.frz od u)) b = some o := by rw [upd_ne n]; exact h
/-- the names whose sums are some -/
def sumNs (e : Env) : List (Str × List Str × List Str) := e.filter fun p => !p.2.2.isEmpty
theorem rowD3_row {lo hi : Int} {d : PyData} (h : rowD3 lo hi d = true) : isRowD d = true ∧ lo ≤ ((partsD d).length : Int) ∧ ((partsD d).length : Int) ≤ hi := by
  unfold rowD3 at h
  simp only [Bool.and_eq_true, decide_eq_true_eq] at h
  exact ⟨h.1.1, h.1.2, h.2⟩
theorem find_self {κ α : Type} [DecidableEq κ] {p : κ × α} : ∀ {e : List (κ × α)}, (e.map (·.1)).Nodup → p ∈ e → e.find? (fun q => decide (q.1 = p.1)) = some p
  | [], _, m => by cases m
  | q :: e, nd, m => by
    rw [List.map_cons, List.nodup_cons] at nd
    by_cases h : q.1 = p.1
    · rw [List.find?_cons_of_pos (by simp [h])]
      rcases List.mem_cons.mp m with rfl | m
      · rfl
      · exact absurd (List.mem_map.mpr ⟨p, m, h.symm⟩) nd.1
    · rw [List.find?_cons_of_neg (by simp [h])]
      rcases List.mem_cons.mp m with rfl | m
      · exact absurd rfl h
      · exact find_self nd.2 m
theorem val_at {kvs : List (Key × V)} {i : Nat} {k : Key} {v : V} (nd : (kvs.map (·.1)).Nodup) (h : kvs[i]? = some (k, v)) : valV kvs k = some v := by
  unfold valV
  rw [find_self (p := (k, v)) nd (List.mem_of_getElem? h)]
  rfl
theorem env_keys {H : Hp} : ∀ {kvs : List (Key × V)} {e : Env}, Paired (EnvP H) kvs e → kvs.map (·.1) = e.map fun p => (Sum.inr p.1 : Key)
  | _, _, .nil => rfl
  | _, _, .cons h t => by rw [List.map_cons, List.map_cons, h.1, env_keys t]
theorem env_nd {H : Hp} {kvs : List (Key × V)} {e : Env} (h : Paired (EnvP H) kvs e) (nd : (e.map (·.1)).Nodup) : (kvs.map (·.1)).Nodup := by
  rw [env_keys h]
  exact List.pairwise_map.mpr ((List.pairwise_map.mp nd).imp fun h z => h (Sum.inr.inj z))
theorem env_self {e : Env} {p : Str × List Str × List Str} (nd : (e.map (·.1)).Nodup) (m : p ∈ e) : envAt e p.1 = some p.2 := by
  unfold envAt
  rw [find_self nd m]
  rfl
section
variable {P : Program} {w : World} {K : PySem.W.Frag} {mg : Str → Option Value} {base : Heap} {CS CG CRd PD : Addr}
def spSumOf : Sp := fun vs H Q _ => ∃ (v : V) (d : PyData) (s : Str) (sa : Addr) (fs ss : List Str), vs = [v, .str s, .ref sa] ∧ Tp H v d ∧ isRowD d = true ∧ siz d ≤ 100000 ∧ (∀ c ∈ partsD d, ∃ a n z, c = .tuple [a, .str n, z]) ∧ H sa = some (.tup (ss.map V.str)) ∧ ∀ H', Same H H' → Q (.bl ((partsD d).any (sumOfD (s, fs, ss)))) H'
abbrev s_has_sum_of : Stmt := topS 49
abbrev sc_has_sum_ofN : List Str := ["factors", "v", "sums", "factor"]
abbrev ps_has_sum_of : List Str := ["factors", "v", "sums"]
theorem sc_has_sum_of : FnScope sc_has_sum_ofN ps_has_sum_of (defScope s_has_sum_of) := ⟨rfl, rfl, rfl, by decide +kernel, rfl, by decide +kernel, by decide +kernel⟩
theorem ok_has_sum_of {f : Addr} {fd : FuncData} (F : Fun K "has_sum_of" "has_sum_of" s_has_sum_of f fd) (T : Txt K mg CS) : FnOk P w K mg base CX0 1 f fd ps_has_sum_of spSumOf := by
  refine F.ok sc_has_sum_of (fun vs H Q E h => ?_) (fun cdv A outer s H vs Q E hr h => ?_)
  · obtain ⟨_, _, _, _, _, _, rfl, _⟩ := h
    rfl
  · obtain ⟨v, d, z, sa, fs, ss, rfl, hv, e1, hz, form, hsa, k⟩ := h
    refine ⟨_, (pss_one (ps_ret (pe_callB (cr_any (by rfl)) (by rfl) T.n_any (by decide +kernel) (pa_cons (pe_lc (own := [("factor", 3)]) (g := gName 3) (tt := tYes) (by rfl) sc_has_sum_of.nd (pi_any (pv 0)) (blkOk_by (own := [("factor", 3)]) (N := sc_has_sum_ofN) (sc := defScope s_has_sum_of) (by decide +kernel)) (fun _ _ _ _ _ => pg_name (i := 3) sc_has_sum_of.nd rfl (Or.inl rfl)) (fun _ _ _ _ _ => pts_nil) (fun _ _ _ _ _ => (pe_and (pe_cmpR op_eq (pe_ix (ixK_tup (K := K)) (pv 3) pe_int (fun _ _ => rfl)) (pv 1) (nomark _)) (pe_one (pe_cmpR (op_inT (K := K) hr.units) (pe_ix (ixK_tup (K := K)) (pv 3) pe_int (fun _ _ => rfl)) (pv 2) (by rfl)))))) pa_nil)))), ?_⟩
    obtain ⟨a, xs, rfl, hx, ha⟩ := hv.row e1
    have ls := siz_len (partsD d)
    rw [siz_row e1] at hz
    refine ⟨_, rfl, a, xs, rfl, any_of (K := K) (rw_sq hx) (Same.refl _) fun J G gm wk => (fun D hD => ?_)⟩
    refine lc_it wk (fun i H' => Same H H' ∧ H' D = some (.lst (((partsD d).take i).map fun c => V.bl (sumOfD (z, fs, ss) c)))) ⟨same_new _ hD, by rw [upd_same]; rfl⟩ (fun i H' _ z => gm H' z.1) ?_ ?_
    · rintro i x H2 H3 hi2 ⟨s2, d2⟩ ⟨rfl, hxi⟩
      obtain ⟨c, hc, hcv⟩ := ha.at hxi
      obtain ⟨c1, n, c3, rfl⟩ := form c (List.mem_of_getElem? hc)
      obtain ⟨p, x1, x2, x3, rfl, hp, h1, h2, h4⟩ := tp3 (hcv.same s2)
      obtain rfl : x2 = V.str n := h2.strI
      have fin : ∃ acc, H3 D = some (.lst acc) ∧ acc.length < sizeLine ∧ Same H (upd H3 D (.lst (acc ++ [V.bl (sumOfD (z, fs, ss) (.tuple [c1, .str n, c3]))]))) ∧ (upd H3 D (.lst (acc ++ [V.bl (sumOfD (z, fs, ss) (.tuple [c1, .str n, c3]))]))) D = some (.lst (((partsD d).take (i + 1)).map fun c => V.bl (sumOfD (z, fs, ss) c))) :=
        ⟨_, d2, take_lt _ (by omega), same_put s2 _ hD, by rw [upd_same, map_take _ hc]⟩
      have es : sumOfD (z, fs, ss) (.tuple [c1, .str n, c3]) = (decide (z = n) && inS c3 ss) := rfl
      rw [es] at fin
      refine ⟨rfl, _, rfl, p, _, 1, _, rfl, rfl, .inl (.inl hp), ix1, _, rfl, rfl, decide (V.str n = V.str z), rfl, ?_⟩
      by_cases e : n = z
      · subst e
        rw [decide_eq_true (show V.str n = V.str n from rfl)]
        rw [decide_eq_true (show n = n from rfl), Bool.true_and] at fin
        exact iteT ⟨_, rfl, p, _, 2, _, rfl, rfl, .inl (.inl hp), ix2, _, rfl, sa, ss, c3, rfl, .inr (.inl (.inl (s2 _ _ hsa))), h4, fin⟩
      · rw [decide_eq_false (show ¬ V.str n = V.str z from fun q => e (V.str.inj q))]
        rw [decide_eq_false (fun q => e q.symm), Bool.false_and] at fin
        exact iteF fin
    · rintro H2 ⟨s2, d2⟩
      rw [ha.len, List.take_length, bl_map (f := sumOfD (z, fs, ss))] at d2
      refine ⟨D, _, rfl, .inl (.inl d2), ?_⟩
      have k := k _ s2
      rw [List.any_map]
      exact k
def spProd : Sp := fun vs H Q _ => ∃ (v : V) (ar : Addr) (d : PyData) (e : Env), vs = [v, .ref ar] ∧ Tp H v d ∧ EnvAt H ar e ∧ mst d ≤ 100000 ∧ siz d ≤ 100000 ∧ e.length ≤ 1000 ∧ (e.map (·.1)).Nodup ∧ ∀ H', Same H H' → Q (.bl (prodD e d)) H'
abbrev s_is_product : Stmt := topS 47
abbrev sc_is_productN : List Str := ["thing", "around", "factor", "v", "entries"]
abbrev ps_is_product : List Str := ["thing", "around"]
theorem sc_is_product : FnScope sc_is_productN ps_is_product (defScope s_is_product) := ⟨rfl, rfl, rfl, by decide +kernel, rfl, by decide +kernel, by decide +kernel⟩
theorem ok_is_product {f : Addr} {fd : FuncData} (F : Fun K "is_product" "is_product" s_is_product f fd) (T : Txt K mg CS) (D_is_tuple : Df P w K mg base "is_tuple" 1 ps_is_tuple (spIsTuple K)) (D_is_multiple : Df P w K mg base "is_multiple" 2 ps_is_multiple spMult) (D_is_row : Df P w K mg base "is_row" 1 ps_is_row (spIsRow K)) (D_is_place : Df P w K mg base "is_place" 2 ps_is_place spPlace) (D_has_sum_of : Df P w K mg base "has_sum_of" 1 ps_has_sum_of spSumOf) : FnOk P w K mg base CX0 3 f fd ps_is_product spProd := by
  refine F.ok sc_is_product (fun vs H Q E h => ?_) (fun cdv A outer s H vs Q E hr h => ?_)
  · obtain ⟨_, _, _, _, rfl, _⟩ := h
    rfl
  · obtain ⟨v, ar, d, e, rfl, hv, he, hm, hz, le, nde, k⟩ := h
    refine ⟨_, (pss_cons (ps_if (PW.pt (pw_or (pt_not (pt_val (pe_d D_is_tuple (hr.mono (by decide)) (pa_cons (pv 0) (pa_cons pe_int pa_nil))))) (pw_or (pt_not (pt_val (pe_d D_is_multiple (hr.mono (by decide)) (pa_cons (pe_ix ix_tup (pv 0) pe_int (fun _ _ => rfl)) pa_nil)))) (pw_or1 (pt_not (pt_val (pe_d D_is_row (hr.mono (by decide)) (pa_cons (pe_ix ix_tup (pv 0) pe_int (fun _ _ => rfl)) (pa_cons pe_int (pa_cons (pe_gI T.g_MOST_FACTORS) pa_nil))))))))))
    (pss_one (ps_ret pe_bl))
    pss_nil)
  (pss_cons (ps_if (pt_not (pt_val (pe_callB (cr_all (by rfl)) (by rfl) T.n_all (by decide +kernel) (pa_cons (pe_lc (own := [("factor", 2)]) (g := gName 2) (tt := tYes) (by rfl) sc_is_product.nd (pi_any (pe_ix ix_tup (pv 0) pe_int (fun _ _ => rfl))) (blkOk_by (own := [("factor", 2)]) (N := sc_is_productN) (sc := defScope s_is_product) (by decide +kernel)) (fun _ _ _ _ _ => pg_name (i := 2) sc_is_product.nd rfl (Or.inl rfl)) (fun _ _ _ _ _ => pts_nil) (fun _ _ _ _ _ => (pe_d D_is_place (hr.mono (by decide)) (pa_cons (pv 2) (pa_cons (pv 1) pa_nil))))) pa_nil))))
    (pss_one (ps_ret pe_bl))
    pss_nil)
  (pss_cons (ps_lock (ps_setLc (i := 4) (own := [("v", 3)]) (g := gName 3) (tt := _) (by rfl) sc_is_product.nd rfl rfl (sw_true rfl rfl rfl (by decide +kernel)) (pi_keys (pv 1)) (blkOk_by (own := [("v", 3)]) (N := sc_is_productN) (sc := defScope s_is_product) (by decide +kernel)) (fun _ _ _ _ _ => pg_name (i := 3) sc_is_product.nd rfl (Or.inl rfl)) (fun _ _ _ _ _ => (pts_one (pt_cmpR (op_ne0 hr.units) (pe_ix (ixK_tup (K := K)) (pe_dget (Nat.lt_of_le_of_lt (Nat.add_le_add_left (by decide) _) hr.units) (pv 1) (pv 3) (fun _ _ => rfl)) pe_int (fun _ _ => rfl)) (pe_tup pa_nil) (nomark _)))) (fun _ _ _ _ _ => (pv 3))))
  (pss_one (ps_ret (pe_callB (cr_all (by rfl)) (by rfl) T.n_all (by decide +kernel) (pa_cons (pe_lc (own := [("v", 3)]) (g := gName 3) (tt := tYes) (by rfl) sc_is_product.nd (pi_list (pv 4)) (blkOk_by (own := [("v", 3)]) (N := sc_is_productN) (sc := defScope s_is_product) (by decide +kernel)) (fun _ _ _ _ _ => pg_name (i := 3) sc_is_product.nd rfl (Or.inl rfl)) (fun _ _ _ _ _ => pts_nil) (fun _ _ _ _ _ => (pe_d D_has_sum_of (hr.mono (by decide)) (pa_cons (pe_ix (ixK_tup (K := K)) (pv 0) pe_int (fun _ _ => rfl)) (pa_cons (pv 3) (pa_cons (pe_ix (ixK_tup (K := K)) (pe_dget (Nat.lt_of_le_of_lt (Nat.add_le_add_left (by decide) _) hr.units) (pv 1) (pv 3) (fun _ _ => rfl)) pe_int (fun _ _ => rfl)) pa_nil)))))) pa_nil))))))), ?_⟩
    refine ⟨_, rfl, v, d, 2, rfl, hv, _, rfl, ?_⟩
    cases h2 : tupD 2 d with
    | false =>
      have e0 : prodD e d = false := by
        cases d with
        | tuple ds => match ds, h2 with
          | [], _ => rfl
          | [_], _ => rfl
          | [_, _], h => cases h
          | _ :: _ :: _ :: _, _ => rfl
        | _ => rfl
      rw [e0] at k
      exact iteT (k _ (Same.refl _))
    | true =>
      obtain ⟨m, fs, rfl⟩ := tup2 h2
      have k : ∀ H', Same H H' → Q (.bl (multD m && (rowD3 0 3 fs && ((partsD fs).all (placeD e) && e.all fun p => p.2.2.isEmpty || (partsD fs).any (sumOfD p))))) H' := k
      obtain ⟨p, x, y, rfl, hp, h1, hf⟩ := tp2 hv
      have mf := mst_mem (ds := [m, fs]) (d := fs) (by simp)
      have zf := siz_mem (ds := [m, fs]) (d := fs) (by simp)
      have hm2 : mstL [m, fs] ≤ 100000 := hm
      have hz2 : 1 + sizL [m, fs] ≤ 100000 := hz
      refine iteF ⟨_, rfl, p, _, 0, _, rfl, rfl, .inl (.inl hp), ix0, x, m, rfl, h1, _, rfl, ?_⟩
      cases em : multD m with
      | false =>
        rw [em] at k
        exact iteT (k _ (Same.refl _))
      | true =>
        rw [em] at k
        refine iteF ⟨_, rfl, p, _, 1, _, rfl, rfl, .inl (.inl hp), ix1, y, fs, 0, 3, rfl, hf, fun H1 s1 => ⟨_, rfl, ?_⟩⟩
        cases er : rowD3 0 3 fs with
        | false =>
          rw [er] at k
          exact iteT (k _ s1)
        | true =>
          rw [er] at k
          have k : ∀ H', Same H H' → Q (.bl ((partsD fs).all (placeD e) && e.all fun p => p.2.2.isEmpty || (partsD fs).any (sumOfD p))) H' := k
          obtain ⟨e1, l0, l3⟩ := rowD3_row er
          obtain ⟨a, xs, rfl, hx, ha⟩ := (hf.same s1).row e1
          have ls := siz_len (partsD fs)
          have hzf := zf
          have hmf := mf
          rw [siz_row e1] at hzf
          rw [mst_row e1] at hmf
          have hp1 := s1 _ _ hp
          have he1 := he.same s1
          refine iteF ⟨_, rfl, p, _, 1, _, rfl, rfl, .inl (.inl hp1), ix1, a, xs, rfl, any_of (K := K) (rw_sq hx) (Same.refl _) fun J G gm wk => (fun D hD => ?_)⟩
          refine lc_it wk (fun i H' => Same H1 H' ∧ H' D = some (.lst (((partsD fs).take i).map fun c => V.bl (placeD e c)))) ⟨same_new _ hD, by rw [upd_same]; rfl⟩ (fun i H' _ z => gm H' z.1) ?_ ?_
          · rintro i x H2 H3 hi2 ⟨s2, d2⟩ ⟨rfl, hxi⟩
            obtain ⟨c, hc, hcv⟩ := ha.at hxi
            have mc := mst_mem (List.mem_of_getElem? hc)
            refine ⟨rfl, _, rfl, _, rfl, x, ar, c, e, rfl, hcv.same s2, he1.same s2, by omega, le, fun H4 s4 => ?_⟩
            refine ⟨_, s4 _ _ d2, take_lt _ (by omega), same_put (s2.trans s4) _ hD, ?_⟩
            rw [upd_same, map_take _ hc]
          rintro H2 ⟨s2, d2⟩
          rw [ha.len, List.take_length, bl_map (f := placeD e)] at d2
          refine ⟨D, _, rfl, .inl (.inl d2), _, rfl, ?_⟩
          rw [List.all_map, show ((id : Bool → Bool) ∘ placeD e) = placeD e from rfl]
          cases ea : (partsD fs).all (placeD e) with
          | false =>
            rw [ea] at k
            exact iteT (k _ (s1.trans s2))
          | true =>
            rw [ea, Bool.true_and] at k
            refine iteF ?_
            have s12 := s1.trans s2
            have form : ∀ c ∈ partsD fs, ∃ a n z, c = .tuple [a, .str n, z] := fun c mc => by
              obtain ⟨a, n, z, _, q, _⟩ := place_yes (List.all_eq_true.mp ea c mc)
              exact ⟨a, n, z, q⟩
            obtain ⟨kvs, hk, pe⟩ := he.same s12
            have lk := env_len pe
            refine ⟨ar, .dK kvs, hk, trivial, fun od => ?_⟩
            have hL : (upd H2 ar (.frz od (.dK kvs))) ar = some (.frz od (.dK kvs)) := upd_same
            have inL : ∀ {b : Addr} {o : HO}, H2 b = some o → (∀ kk, o ≠ .dK kk) → (upd H2 ar (.frz od (.dK kvs))) b = some o := fun {b o} h n => lock_in (fun z => by rw [z, hk] at h; cases h; exact n _ rfl) h
            have bk : ∀ {H' : Hp}, Same (upd H2 ar (.frz od (.dK kvs))) H' → Same H2 (upd H' ar (.dK kvs)) := fun s => unlock_same hk s
            generalize upd H2 ar (.frz od (.dK kvs)) = HL at *
            refine ⟨_, rfl, ar, od, rfl, .inl ⟨kvs, hL, fun D2 hD2 => ?_⟩⟩
            refine lc_it walk_keys (fun i H' => Same HL H' ∧ H' D2 = some (.lst ((sumNs (e.take i)).map fun p => V.str p.1))) ⟨same_new _ hD2, upd_same⟩ (fun i H' _ z => z.1 _ _ hL) ?_ ?_
            · rintro i x H3 H4 hi ⟨s3, d3⟩ ⟨rfl, kk, xv, hkv, rfl⟩
              obtain ⟨q, hq, rfl, ga, fa, sa, rfl, g1, g2, g3⟩ := env_at pe hkv
              have val : valV kvs (Sum.inr q.1 : Key) = some (V.ref ga) := val_at (env_nd pe nde) hkv
              have nf : ∀ (xs : List V) kk, HO.tup xs ≠ .dK kk := fun xs kk z => by cases z
              refine ⟨rfl, _, rfl, _, rfl, ar, _, rfl, .inl ⟨_, Sum.inr q.1, .inr ⟨od, s3 _ _ hL⟩, rfl, val.symm⟩, ga, _, 1, _, rfl, rfl, .inl (.inl (s3 _ _ (inL g1 (nf _)))), ix1, (by show 0 ≤ sizeLine; decide), fun tp htp => ?_⟩
              have s34 : Same H4 (upd H4 tp (.tup [])) := same_new _ htp
              have tp5 : (upd H4 tp (.tup [])) tp = some (.tup []) := upd_same
              generalize upd H4 tp (.tup []) = H5 at *
              refine ⟨sa, tp, _, rfl, rfl, s34 _ _ (s3 _ _ (inL g3 (nf _))), tp5, _, rfl, ?_⟩
              have est : sumNs (e.take (i + 1)) = sumNs (e.take i) ++ sumNs [q] := by
                unfold sumNs
                rw [List.take_add_one, hq, List.filter_append]
                rfl
              cases hs : q.2.2 with
              | nil =>
                have e9 : sumNs [q] = [] := by
                  unfold sumNs
                  rw [List.filter_cons_of_neg (by rw [hs]; decide)]
                  rfl
                refine iteF ⟨s3.trans s34, ?_⟩
                rw [est, e9, List.append_nil]
                exact s34 _ _ d3
              | cons c cs =>
                have e9 : sumNs [q] = [q] := by
                  unfold sumNs
                  rw [List.filter_cons_of_pos (by rw [hs]; rfl)]
                  rfl
                refine iteT ⟨_, rfl, _, s34 _ _ d3, ?_, same_put (s3.trans s34) _ hD2, ?_⟩
                · rw [List.length_map]
                  have z := List.length_filter_le (fun p : Str × List Str × List Str => !p.2.2.isEmpty) (e.take i)
                  rw [List.length_take] at z
                  exact Nat.lt_of_le_of_lt (show (sumNs (e.take i)).length ≤ 1000 by unfold sumNs; omega) (by decide)
                · rw [upd_same, est, e9, List.map_append]
                  rfl
            rintro H3 ⟨s3, d3⟩
            rw [lk, List.take_length] at d3
            refine ⟨s3 _ _ hL, ?_⟩
            have s23 := bk s3
            have nDa : D2 ≠ ar := fun z => by rw [z, hL] at hD2; cases hD2
            have d4 : (upd H3 ar (.dK kvs)) D2 = some (.lst ((sumNs e).map fun p => V.str p.1)) := by rw [upd_ne nDa]; exact d3
            generalize upd H3 ar (.dK kvs) = H4 at *
            have s14 := s2.trans s23
            have s04 := s1.trans s14
            have hk4 := s23 _ _ hk
            have pe4 := envP_same s23 pe
            have lsn : (sumNs e).length ≤ 1000 := by
              have z := List.length_filter_le (fun p : Str × List Str × List Str => !p.2.2.isEmpty) e
              unfold sumNs
              omega
            refine ⟨_, rfl, D2, rfl, ⟨_, .inl (.inl d4)⟩, fun D3 hD3 => ?_⟩
            refine lc_it walk_list (fun i H' => Same H4 H' ∧ H' D3 = some (.lst (((sumNs e).take i).map fun p => V.bl ((partsD fs).any (sumOfD p))))) ⟨same_new _ hD3, by rw [upd_same]; rfl⟩ (fun i H' _ z => .inl (.inl (z.1 _ _ d4))) ?_ ?_
            · rintro i x H5 H6 hi ⟨s5, d5⟩ ⟨rfl, hx⟩
              rw [List.getElem?_map] at hx
              obtain ⟨q, hq, rfl⟩ := Option.map_eq_some_iff.mp hx
              have mq : q ∈ e := (List.mem_filter.mp (List.mem_of_getElem? hq)).1
              have pe6 := envP_same s5 pe4
              rcases env_val q.1 pe6 with ⟨q1, _⟩ | ⟨ff, xx, q1, q2, ga, fa, sa, rfl, g1, g2, g3⟩
              · rw [env_self nde mq] at q1; cases q1
              · rw [env_self nde mq] at q1
                cases q1
                have s06 := s04.trans s5
                refine ⟨rfl, _, rfl, p, _, 1, _, rfl, rfl, .inl (.inl (s06 _ _ hp)), ix1, _, rfl, _, rfl, _, rfl, ar, _, rfl, .inl ⟨_, Sum.inr q.1, .inl (s5 _ _ hk4), rfl, q2.symm⟩, ga, _, 1, _, rfl, rfl, .inl (.inl g1), ix1, .ref a, fs, q.1, sa, q.2.1, q.2.2, rfl, hf.same s06, e1, by omega, form, g3, fun H7 s7 => ?_⟩
                refine ⟨_, s7 _ _ d5, take_lt _ (by omega), same_put (s5.trans s7) _ hD3, ?_⟩
                rw [upd_same, map_take _ hq]
            rintro H5 ⟨s5, d5⟩
            rw [List.length_map, List.take_length, bl_map (f := fun p => (partsD fs).any (sumOfD p))] at d5
            refine ⟨D3, _, rfl, .inl (.inl d5), ?_⟩
            have k := k _ (s04.trans s5)
            rw [List.all_map]
            have ee : ((sumNs e).all (id ∘ fun p => (partsD fs).any (sumOfD p))) = e.all fun p => p.2.2.isEmpty || (partsD fs).any (sumOfD p) := by
              unfold sumNs
              rw [List.all_filter]
              congr 1
              funext p
              cases p.2.2.isEmpty <;> rfl
            rw [ee]
            exact k
def spProds : Sp := fun vs H Q _ => ∃ (v : V) (ar : Addr) (d : PyData) (e : Env), vs = [v, .ref ar] ∧ Tp H v d ∧ EnvAt H ar e ∧ mst d ≤ 100000 ∧ siz d ≤ 100000 ∧ e.length ≤ 1000 ∧ (e.map (·.1)).Nodup ∧ ∀ H', Same H H' → Q (.bl (prodsD e d)) H'
abbrev s_are_products : Stmt := topS 46
abbrev sc_are_productsN : List Str := ["thing", "around", "product"]
abbrev ps_are_products : List Str := ["thing", "around"]
theorem sc_are_products : FnScope sc_are_productsN ps_are_products (defScope s_are_products) := ⟨rfl, rfl, rfl, by decide +kernel, rfl, by decide +kernel, by decide +kernel⟩
theorem ok_are_products {f : Addr} {fd : FuncData} (F : Fun K "are_products" "are_products" s_are_products f fd) (T : Txt K mg CS) (D_is_row : Df P w K mg base "is_row" 1 ps_is_row (spIsRow K)) (D_is_product : Df P w K mg base "is_product" 3 ps_is_product spProd) : FnOk P w K mg base CX0 4 f fd ps_are_products spProds := by
  refine F.ok sc_are_products (fun vs H Q E h => ?_) (fun cdv A outer s H vs Q E hr h => ?_)
  · obtain ⟨_, _, _, _, rfl, _⟩ := h
    rfl
  · obtain ⟨v, ar, d, e, rfl, hv, he, hm, hz, le, nde, k⟩ := h
    refine ⟨_, (pss_one (ps_ret (pe_and (pe_d D_is_row (hr.mono (by decide)) (pa_cons (pv 0) (pa_cons pe_int (pa_cons (pe_gI T.g_MOST_PRODUCTS) pa_nil)))) (pe_one (pe_callB (cr_all (by rfl)) (by rfl) T.n_all (by decide +kernel) (pa_cons (pe_lc (own := [("product", 2)]) (g := gName 2) (tt := tYes) (by rfl) sc_are_products.nd (pi_any (pv 0)) (blkOk_by (own := [("product", 2)]) (N := sc_are_productsN) (sc := defScope s_are_products) (by decide +kernel)) (fun _ _ _ _ _ => pg_name (i := 2) sc_are_products.nd rfl (Or.inl rfl)) (fun _ _ _ _ _ => pts_nil) (fun _ _ _ _ _ => (pe_d D_is_product (hr.mono (by decide)) (pa_cons (pv 2) (pa_cons (pv 1) pa_nil))))) pa_nil)))))), ?_⟩
    refine ⟨_, rfl, v, d, 0, 4, rfl, hv, fun H1 s1 => ⟨_, rfl, ?_⟩⟩
    unfold prodsD at k
    cases er : rowD3 0 4 d with
    | false =>
      rw [er] at k
      exact iteF (k _ s1)
    | true =>
      rw [er] at k
      obtain ⟨e1, _, _⟩ := rowD3_row er
      obtain ⟨a, xs, rfl, hx, ha⟩ := (hv.same s1).row e1
      have ls := siz_len (partsD d)
      rw [siz_row e1] at hz
      rw [mst_row e1] at hm
      refine iteT ⟨_, rfl, a, xs, rfl, any_of (K := K) (rw_sq hx) (Same.refl _) fun J G gm wk => (fun D hD => ?_)⟩
      refine lc_it wk (fun i H' => Same H1 H' ∧ H' D = some (.lst (((partsD d).take i).map fun c => V.bl (prodD e c)))) ⟨same_new _ hD, by rw [upd_same]; rfl⟩ (fun i H' _ z => gm H' z.1) ?_ ?_
      · rintro i x H2 H3 hi2 ⟨s2, d2⟩ ⟨rfl, hxi⟩
        obtain ⟨c, hc, hcv⟩ := ha.at hxi
        have mc := mst_mem (List.mem_of_getElem? hc)
        have zc := siz_mem (List.mem_of_getElem? hc)
        refine ⟨rfl, _, rfl, _, rfl, x, ar, c, e, rfl, hcv.same s2, (he.same s1).same s2, by omega, by omega, le, nde, fun H4 s4 => ?_⟩
        refine ⟨_, s4 _ _ d2, take_lt _ (by omega), same_put (s2.trans s4) _ hD, ?_⟩
        rw [upd_same, map_take _ hc]
      · rintro H2 ⟨s2, d2⟩
        rw [ha.len, List.take_length, bl_map (f := prodD e)] at d2
        refine ⟨D, _, rfl, .inl (.inl d2), ?_⟩
        rw [List.all_map]
        exact k _ (s1.trans s2)
end
end Fm

/-! ## K08W -/
set_option Elab.async false
set_option maxRecDepth 100000
set_option maxHeartbeats 8000000
namespace Fm
open PySem L2
/-! ### the reader: what it holds, what stays -/
def kindD : PyData → Str
  | .tuple (.str z :: _) => z
  | _ => ""
def pt (d : PyData) (i : Nat) : PyData := (partsD d).getD i .none
/-- what the reader knows: how many statements, the tops that put a block, the blocks that are asked -/
structure RS where
  many : Nat
  tops : Str → List Nat
  asked : List Str
def natL (l : List Nat) : List V := l.map fun a => V.int (a : Nat)
def askK (l : List Str) : List (Key × V) := l.map fun s => ((Sum.inr s : Key), V.bl true)
def rdF (sh bl tp as : Addr) (many : Nat) : List (Str × V) := [("shape", .ref sh), ("blocks", .ref bl), ("many", .int (many : Nat)), ("tops", .ref tp), ("asked", .ref as)]
/-- where the parts of a reader stand -/
structure RdA where
  x : Addr
  dx : Addr
  sh : Addr
  bl : Addr
  tp : Addr
  as : Addr
  ls : List Addr
def RdA.M (r : RdA) : List Addr := r.x :: r.as :: r.ls
def cutM (H : Hp) (M : List Addr) : Hp := fun a => if a ∈ M then none else H a
theorem cutM_sub {H : Hp} {M : List Addr} : Same (cutM H M) H := fun a o e => by
  unfold cutM at e
  split at e
  · cases e
  · exact e
theorem cutM_in {H : Hp} {M : List Addr} {a : Addr} (h : a ∉ M) : cutM H M a = H a := if_neg h
theorem cutM_at {H : Hp} {M : List Addr} {a : Addr} (h : a ∈ M) : cutM H M a = none := if_pos h
theorem cutM_mono {H H' : Hp} {M : List Addr} (s : Same H H') : Same (cutM H M) (cutM H' M) := fun a o e => by
  unfold cutM at e ⊢
  split at e
  · cases e
  · rename_i n
    rw [if_neg n]
    exact s a o e
theorem cutM_put {H : Hp} {M : List Addr} {a : Addr} {o : HO} (h : a ∈ M) : cutM (upd H a o) M = cutM H M := funext fun b => by
  unfold cutM
  by_cases z : b ∈ M
  · rw [if_pos z, if_pos z]
  · rw [if_neg z, if_neg z, upd_ne fun q => z (by rw [q]; exact h)]
/-- a tops' list for each block, in their order -/
def topsK (bs : Env) (ls : List Addr) : List (Key × V) := (bs.zip ls).map fun p => ((Sum.inr p.1.1 : Key), V.ref p.2)
structure RdAt (CS CRd : Addr) (H : Hp) (r : RdA) (ts : List Tab) (bs : Env) (st : RS) : Prop where
  hx : H r.x = some (.ins CRd r.dx (rdF r.sh r.bl r.tp r.as st.many))
  sh : ShT CS (cutM H r.M) r.sh (tsD ts)
  bl : EnvAt (cutM H r.M) r.bl bs
  tp : (cutM H r.M) r.tp = some (.dK (topsK bs r.ls))
  as : H r.as = some (.dK (askK st.asked))
  ll : r.ls.length = bs.length
  nd : r.ls.Nodup
  lt : ∀ (i : Nat) (b : Str × List Str × List Str) (l : Addr), bs[i]? = some b → r.ls[i]? = some l → H l = some (.lst (natL (st.tops b.1)))
  nb : (bs.map (·.1)).Nodup
  few : bs.length ≤ 6
  m1 : st.many ≤ 1000
  tl : ∀ s, (st.tops s).length ≤ st.many
  al : st.asked.length ≤ st.many
/-! ### what is right of a statement -/
def hasB (bs : Env) : PyData → Bool
  | .str b => isNm b && (envAt bs b).isSome
  | _ => false
def rowsFit (ts : List Tab) (e : Env) (d : PyData) : Bool := if kindD d = "scan" then !(foT ts (pt d 2)).isEmpty else inS (pt d 3) (foT ts (pt d 2)) && (decide (kindD d = "run") || termD e (pt d 4))
def entFit (bs : Env) (st : RS) (top : Nat) (e : Env) (d : PyData) : Bool := match pt d 2 with
  | .str b => (match envAt bs b with
    | some p => isNm b && ((decide ((st.tops b).length = 1) && !decide ((st.tops b)[0]? = some top)) && (if kindD d = "rise" then inS (pt d 3) p.1 else decide (kindD d = "each") || termsD e p.1.length (pt d 3)))
    | none => false)
  | _ => false
def putFit3 (bs : Env) (st : RS) (top : Nat) (e : Env) (d1 d2 d3 : PyData) : Bool := match d1 with
  | .str b => (match envAt bs b with
    | some p => isNm b && ((!decide (top ∈ st.tops b) && !decide (b ∈ st.asked)) && ((termsD e p.1.length d2 && rowD3 p.2.length p.2.length d3) && (partsD d3).all (prodsD e)))
    | none => false)
  | _ => false
def putFit (bs : Env) (st : RS) (top : Nat) (e : Env) (d : PyData) : Bool := putFit3 bs st top e (pt d 1) (pt d 2) (pt d 3)
def freeD (e : Env) : PyData → Bool
  | .str v => isNm v && !(envAt e v).isSome
  | _ => false
def fitsD (ts : List Tab) (bs : Env) (st : RS) (top : Nat) (e : Env) (d : PyData) : Bool :=
  hasPD d && (if kindD d = "put" then putFit bs st top e d else rowD3 1 8 ((partsD d).getLastD .none) && (if kindD d = "same" then termD e (pt d 1) && termD e (pt d 2) else
    freeD e (pt d 1) && (if overE (kindD d) = true then entFit bs st top e d else rowsFit ts e d)))
theorem pt_mem {d : PyData} {i : Nat} (e : isRowD d = true) (h : i < (partsD d).length) : pt d i ∈ partsD d := by
  unfold pt
  rw [List.getD_eq_getElem?_getD, List.getElem?_eq_getElem h]
  exact List.getElem_mem h
theorem pt_bd {d : PyData} {i : Nat} (e : isRowD d = true) : mst (pt d i) ≤ mst d ∧ siz (pt d i) ≤ siz d + 1 := by
  by_cases h : i < (partsD d).length
  · have m := pt_mem e h
    have z1 := mst_mem m
    have z2 := siz_mem m
    rw [mst_row e, siz_row e]
    omega
  · have z : pt d i = .none := by
      unfold pt
      rw [List.getD_eq_getElem?_getD, List.getElem?_eq_none (by omega)]
      rfl
    rw [z]
    exact ⟨Nat.zero_le _, by show 1 ≤ _; omega⟩
theorem st_at {H : Hp} {v : V} {d : PyData} (hv : Tp H v d) (hp : hasPD d = true) : ∃ a xs z ds, v = .ref a ∧ H a = some (.tup xs) ∧ d = .tuple (.str z :: ds) ∧ partsN z = some (ds.length + 1) ∧ kindD d = z ∧ (∀ i, i < ds.length + 1 → ∃ x, xs[i]? = some x ∧ Tp H x (pt d i)) ∧ xs[0]? = some (.str z) ∧ TpAll H xs (.str z :: ds) := by
  cases d with
  | tuple ds =>
    cases ds with
    | nil => cases hp
    | cons c ds =>
      cases c with
      | str z =>
        obtain ⟨a, xs, rfl, ha, ta⟩ := hv.tuple
        have at_ : ∀ i, i < ds.length + 1 → ∃ x, xs[i]? = some x ∧ Tp H x (pt (.tuple (.str z :: ds)) i) := fun i h => by
          have h : i < (PyData.str z :: ds).length := h
          obtain ⟨x, q1, q2⟩ := ta.to (i := i) (List.getElem?_eq_getElem h)
          refine ⟨x, q1, ?_⟩
          have e2 : pt (.tuple (.str z :: ds)) i = (PyData.str z :: ds)[i] := by
            show (PyData.str z :: ds).getD i .none = _
            rw [List.getD_eq_getElem?_getD, List.getElem?_eq_getElem h]
            rfl
          rw [e2]
          exact q2
        obtain ⟨x0, h0, t0⟩ := at_ 0 (Nat.succ_pos _)
        obtain rfl : x0 = V.str z := t0.strI
        exact ⟨a, xs, z, ds, rfl, ha, rfl, of_decide_eq_true hp, rfl, at_, h0, ta⟩
      | _ => cases hp
  | _ => cases hp
theorem parts_of {z : Str} {n m : Nat} (h : partsN z = some (n + 1)) (e : partsN z = some m) : n + 1 = m := by rw [h] at e; exact Option.some.inj e
theorem has_val {H : Hp} {kvs : List (Key × V)} {e : Env} (h : Paired (EnvP H) kvs e) (s : Str) : (valV kvs (Sum.inr s : Key)).isSome = (envAt e s).isSome := by
  rcases env_val s h with ⟨q1, q2⟩ | ⟨_, _, q1, q2, _⟩
  · rw [q1, q2]; rfl
  · rw [q1, q2]; rfl
section
variable {P : Program} {w : World} {K : PySem.W.Frag} {mg : Str → Option Value} {base : Heap} {CS CG CRd PD : Addr}
def spHasB (CS CRd : Addr) : Sp := fun vs H Q _ => ∃ (r : RdA) (v : V) (d : PyData) (ts : List Tab) (bs : Env) (st : RS), vs = [.ref r.x, v] ∧ RdAt CS CRd H r ts bs st ∧ Tp H v d ∧ mst d ≤ 100000 ∧ ∀ H', Same H H' → Q (.bl (hasB bs d)) H'
abbrev s_Reader_has_block : Stmt := inClass (topS 37) 7
abbrev sc_Reader_has_blockN : List Str := ["self", "thing"]
abbrev ps_Reader_has_block : List Str := ["self", "thing"]
theorem sc_Reader_has_block : FnScope sc_Reader_has_blockN ps_Reader_has_block (defScope s_Reader_has_block) := ⟨rfl, rfl, rfl, by decide +kernel, rfl, by decide +kernel, by decide +kernel⟩
theorem ok_Reader_has_block {f : Addr} {fd : FuncData} (F : Fun K "has_block" "Reader.has_block" s_Reader_has_block f fd) (T : Txt K mg CS) (G : TxG K w mg CG CRd PD) (D_is_name : Df P w K mg base "is_name" 1 ps_is_name (spIsName K)) : FnOk P w K mg base CX0 2 f fd ps_Reader_has_block (spHasB CS CRd) := by
  refine F.ok sc_Reader_has_block (fun vs H Q E h => ?_) (fun cdv A outer s H vs Q E hr h => ?_)
  · obtain ⟨_, _, _, _, _, _, rfl, _⟩ := h
    rfl
  · obtain ⟨r, v, d, ts, bs, st, rfl, R, hv, hm, k⟩ := h
    refine ⟨_, (pss_one (ps_ret (pe_and (pe_d D_is_name (hr.mono (by decide)) (pa_cons (pv 1) pa_nil)) (pe_one (pe_cmp (pc_din (Nat.lt_of_le_of_lt (Nat.add_le_add_left (by decide) _) hr.units) (pv 1) (pe_fld (pv 0) rfl)) (by rfl)))))), ?_⟩
    refine ⟨_, rfl, v, isNmD d, rfl, nm_case hv hm, fun H1 s1 => ⟨_, rfl, ?_⟩⟩
    cases en : isNmD d with
    | false =>
      have e0 : hasB bs d = false := by
        cases d with
        | str s =>
          have en : isNm s = false := en
          show (isNm s && _) = false
          rw [en]
          rfl
        | _ => rfl
      rw [e0] at k
      exact iteF (k _ s1)
    | true =>
      obtain ⟨z, rfl, ez⟩ := nmD_str en
      obtain rfl : v = V.str z := hv.strI
      have e0 : hasB bs (.str z) = (envAt bs z).isSome := by
        show (isNm z && _) = _
        rw [ez]
        rfl
      rw [e0] at k
      obtain ⟨kvs, hk, pe⟩ := R.bl
      have hk1 := s1 _ _ (cutM_sub _ _ hk)
      have k := k _ s1
      rw [← has_val pe z] at k
      refine iteT ⟨_, rfl, _, rfl, r.x, CRd, r.dx, _, _, rfl, s1 _ _ R.hx, G.clR, G.rBl, rfl, r.bl, valV kvs (Sum.inr z : Key), rfl, .inl ⟨_, Sum.inr z, .inl hk1, rfl, rfl⟩, ?_⟩
      exact k
def spRowsFit (CS CRd : Addr) : Sp := fun vs H Q _ => ∃ (r : RdA) (v : V) (ar : Addr) (d : PyData) (ts : List Tab) (bs : Env) (st : RS) (e : Env), vs = [.ref r.x, v, .ref ar] ∧ RdAt CS CRd H r ts bs st ∧ Tp H v d ∧ EnvAt H ar e ∧ hasPD d = true ∧ (kindD d = "scan" ∨ kindD d = "run" ∨ kindD d = "seek") ∧ mst d ≤ 100000 ∧ e.length ≤ 1000 ∧ ∀ H', Same H H' → Q (.bl (rowsFit ts e d)) H'
abbrev s_Reader_rows_fit : Stmt := inClass (topS 37) 4
abbrev sc_Reader_rows_fitN : List Str := ["self", "statement", "around", "fields"]
abbrev ps_Reader_rows_fit : List Str := ["self", "statement", "around"]
theorem sc_Reader_rows_fit : FnScope sc_Reader_rows_fitN ps_Reader_rows_fit (defScope s_Reader_rows_fit) := ⟨rfl, rfl, rfl, by decide +kernel, rfl, by decide +kernel, by decide +kernel⟩
theorem ok_Reader_rows_fit {f : Addr} {fd : FuncData} (F : Fun K "rows_fit" "Reader.rows_fit" s_Reader_rows_fit f fd) (T : Txt K mg CS) (G : TxG K w mg CG CRd PD) (D_fields_of_table : Df P w K mg base "fields_of_table" 1 ps_fields_of_table (spFoT CS)) (D_is_term : Df P w K mg base "is_term" 3 ps_is_term spTerm) : FnOk P w K mg base CX0 4 f fd ps_Reader_rows_fit (spRowsFit CS CRd) := by
  refine F.ok sc_Reader_rows_fit (fun vs H Q E h => ?_) (fun cdv A outer s H vs Q E hr h => ?_)
  · obtain ⟨_, _, _, _, _, _, _, _, rfl, _⟩ := h
    rfl
  · obtain ⟨r, v, ar, d, ts, bs, st, e, rfl, R, hv, he, hp, hk, hm, le, k⟩ := h
    refine ⟨_, (pss_cons (ps_set (i := 3) sc_Reader_rows_fit.nd rfl (Or.inl rfl) (pe_d D_fields_of_table (hr.mono (by decide)) (pa_cons (pe_fld (pv 0) rfl) (pa_cons (pe_ix ix_tup (pv 1) pe_int (fun _ _ => rfl)) pa_nil))))
  (pss_cons (ps_if (pt_cmpR op_eq (pe_ix ix_tup (pv 1) pe_int (fun _ _ => rfl)) pe_str (nomark _))
    (pss_one (ps_ret (pe_cmpR (op_ne0 hr.units) (pv 3) (pe_tup pa_nil) (nomark _))))
    pss_nil)
  (pss_cons (ps_if (pt_cmpR (op_notInT hr.units) (pe_ix ix_tup (pv 1) pe_int (fun _ _ => rfl)) (pv 3) (by rfl))
    (pss_one (ps_ret pe_bl))
    pss_nil)
  (pss_one (ps_ret (pe_or (pe_cmpR op_eq (pe_ix ix_tup (pv 1) pe_int (fun _ _ => rfl)) pe_str (nomark _)) (pe_one (pe_d D_is_term (hr.mono (by decide)) (pa_cons (pe_ix ix_tup (pv 1) pe_int (fun _ _ => rfl)) (pa_cons (pv 2) pa_nil)))))))))), ?_⟩
    obtain ⟨a, xs, z, ds, rfl, ha, ed, en, ek, at_, h0, ta⟩ := st_at hv hp
    have erow : isRowD d = true := by rw [ed]; rfl
    rw [ek] at hk
    have l4 : 3 ≤ ds.length := by
      rcases hk with q | q | q
      · have := parts_of en (m := 4) (by rw [q]; rfl); omega
      · have := parts_of en (m := 5) (by rw [q]; rfl); omega
      · have := parts_of en (m := 6) (by rw [q]; rfl); omega
    obtain ⟨x2, h2, t2⟩ := at_ 2 (by omega)
    obtain ⟨x3, h3, t3⟩ := at_ 3 (by omega)
    unfold rowsFit at k
    rw [ek] at k
    refine ⟨_, rfl, r.x, CRd, r.dx, _, _, rfl, R.hx, G.clR, G.rSh, rfl, _, rfl, a, _, 2, _, rfl, rfl, .inl (.inl ha), atI_nat h2, r.sh, x2, _, ts, rfl, R.sh.same cutM_sub, t2, fun fp H1 s1 hfp => ?_⟩
    have ha1 := s1 _ _ ha
    refine ⟨_, rfl, a, _, 0, _, rfl, rfl, .inl (.inl ha1), atI_nat h0, rfl, _, rfl, ifd (fun es => ?_) fun es => ?_⟩
    · have ez : z = "scan" := V.str.inj es
      rw [if_pos ez] at k
      refine ⟨_, rfl, (by show 0 ≤ sizeLine; decide), fun tp htp => ?_⟩
      refine ⟨fp, tp, _, rfl, rfl, (same_new _ htp) _ _ hfp, upd_same, ?_⟩
      have k := k _ (s1.trans (same_new (.tup []) htp))
      rw [List.isEmpty_map]
      exact k
    · have ez : ¬ z = "scan" := fun q => es (by rw [q])
      rw [if_neg ez] at k
      refine ⟨_, rfl, a, _, 3, _, rfl, rfl, .inl (.inl ha1), atI_nat h3, _, rfl, fp, _, _, rfl, .inr (.inl (.inl hfp)), t3.same s1, _, rfl, ?_⟩
      cases e3 : inS (pt d 3) (foT ts (pt d 2)) with
      | false =>
        rw [e3] at k
        exact iteT (k _ s1)
      | true =>
        rw [e3, Bool.true_and] at k
        refine iteF ⟨_, rfl, a, _, 0, _, rfl, rfl, .inl (.inl ha1), atI_nat h0, rfl, decide (V.str z = V.str "run"), rfl, ?_⟩
        have er : decide (V.str z = V.str "run") = decide (z = "run") := decide_eq_decide.mpr ⟨V.str.inj, fun q => by rw [q]⟩
        rw [er]
        by_cases ez2 : z = "run"
        · rw [decide_eq_true ez2] at k ⊢
          exact iteT (k _ s1)
        · rw [decide_eq_false ez2, Bool.false_or] at k
          rw [decide_eq_false ez2]
          have hk3 : z = "seek" := by
            rcases hk with q | q | q
            · exact absurd q ez
            · exact absurd q ez2
            · exact q
          have l6 := parts_of en (m := 6) (by rw [hk3]; rfl)
          obtain ⟨x4, h4, t4⟩ := at_ 4 (by omega)
          have m4 := (pt_bd (d := d) (i := 4) erow).1
          exact iteF ⟨_, rfl, a, _, 4, _, rfl, rfl, .inl (.inl ha1), atI_nat h4, _, rfl, x4, ar, _, e, rfl, t4.same s1, he.same s1, by omega, le, fun H2 s2 => k _ (s1.trans s2)⟩
end
end Fm

/-! ## K08X -/
set_option Elab.async false
set_option maxRecDepth 100000
set_option maxHeartbeats 8000000
namespace Fm
open PySem L2
theorem RdAt.same {CS CRd : Addr} {H H' : Hp} {r : RdA} {ts : List Tab} {bs : Env} {st : RS} (R : RdAt CS CRd H r ts bs st) (s : Same H H') : RdAt CS CRd H' r ts bs st :=
  ⟨s _ _ R.hx, R.sh.same (cutM_mono s), R.bl.same (cutM_mono s), cutM_mono s _ _ R.tp, s _ _ R.as, R.ll, R.nd, fun i b l h1 h2 => s _ _ (R.lt i b l h1 h2), R.nb, R.few, R.m1, R.tl, R.al⟩
theorem topsK_keys {bs : Env} {ls : List Addr} (h : ls.length = bs.length) : (topsK bs ls).map (·.1) = bs.map fun p => (Sum.inr p.1 : Key) := by
  unfold topsK
  rw [List.map_map]
  have e : ((fun p : Key × V => p.1) ∘ fun p : (Str × List Str × List Str) × Addr => ((Sum.inr p.1.1 : Key), V.ref p.2)) = fun p => (Sum.inr p.1.1 : Key) := rfl
  rw [e]
  have go : ∀ (bs : Env) (ls : List Addr), ls.length = bs.length → ((bs.zip ls).map fun p => (Sum.inr p.1.1 : Key)) = bs.map fun p => (Sum.inr p.1 : Key) := by
    intro bs
    induction bs with
    | nil => exact fun _ _ => rfl
    | cons b bs ih =>
      intro ls h
      cases ls with
      | nil => cases h
      | cons l ls => rw [List.zip_cons_cons, List.map_cons, List.map_cons, ih ls (Nat.succ.inj h)]
  exact go bs ls h
theorem env_mem {e : Env} {s : Str} {p : List Str × List Str} (h : envAt e s = some p) : ∃ i : Nat, e[i]? = some (s, p) := by
  unfold envAt at h
  obtain ⟨q, hq, rfl⟩ := Option.map_eq_some_iff.mp h
  have e1 : q.1 = s := of_decide_eq_true (p := q.1 = s) (by have y := List.find?_some (p := fun p : Str × List Str × List Str => decide (p.1 = s)) hq; exact y)
  obtain ⟨i, hi⟩ := List.getElem?_of_mem (List.mem_of_find?_eq_some hq)
  exact ⟨i, by rw [hi, ← e1]⟩
theorem RdAt.val {CS CRd : Addr} {H : Hp} {r : RdA} {ts : List Tab} {bs : Env} {st : RS} (R : RdAt CS CRd H r ts bs st) {b : Str} {p : List Str × List Str} (h : envAt bs b = some p) : ∃ (l : Addr) (i : Nat), r.ls[i]? = some l ∧ bs[i]? = some (b, p) ∧ valV (topsK bs r.ls) (Sum.inr b : Key) = some (.ref l) ∧ H l = some (.lst (natL (st.tops b))) := by
  obtain ⟨i, hi⟩ := env_mem h
  have il : i < r.ls.length := by rw [R.ll]; exact (List.getElem?_eq_some_iff.mp hi).1
  have hl : r.ls[i]? = some r.ls[i] := List.getElem?_eq_getElem il
  refine ⟨r.ls[i], i, hl, hi, ?_, R.lt i _ _ hi hl⟩
  have nd : ((topsK bs r.ls).map (·.1)).Nodup := by
    rw [topsK_keys R.ll]
    exact List.pairwise_map.mpr ((List.pairwise_map.mp R.nb).imp fun h z => h (Sum.inr.inj z))
  refine val_at (i := i) nd ?_
  unfold topsK
  rw [List.getElem?_map, (List.getElem?_zip_eq_some (z := ((b, p), r.ls[i]))).mpr ⟨hi, hl⟩]
  rfl
theorem hasB_yes {bs : Env} {d : PyData} (h : hasB bs d = true) : ∃ b p, d = .str b ∧ isNm b = true ∧ envAt bs b = some p := by
  cases d with
  | str b =>
    have h : (isNm b && (envAt bs b).isSome) = true := h
    rw [Bool.and_eq_true] at h
    obtain ⟨p, hp⟩ := Option.isSome_iff_exists.mp h.2
    exact ⟨b, p, rfl, h.1, hp⟩
  | _ => cases h
theorem natL_len (l : List Nat) : (natL l).length = l.length := List.length_map _
section
variable {P : Program} {w : World} {K : PySem.W.Frag} {mg : Str → Option Value} {base : Heap} {CS CG CRd PD : Addr}
def spEntFit (CS CRd : Addr) : Sp := fun vs H Q _ => ∃ (r : RdA) (v : V) (top : Nat) (ar : Addr) (d : PyData) (ts : List Tab) (bs : Env) (st : RS) (e : Env), vs = [.ref r.x, v, .int (top : Nat), .ref ar] ∧ RdAt CS CRd H r ts bs st ∧ Tp H v d ∧ EnvAt H ar e ∧ hasPD d = true ∧ overE (kindD d) = true ∧ mst d ≤ 100000 ∧ siz d ≤ 90000 ∧ e.length ≤ 1000 ∧ ∀ H', Same H H' → Q (.bl (entFit bs st top e d)) H'
abbrev s_Reader_entries_fit : Stmt := inClass (topS 37) 5
abbrev sc_Reader_entries_fitN : List Str := ["self", "statement", "top", "around", "block", "fields"]
abbrev ps_Reader_entries_fit : List Str := ["self", "statement", "top", "around"]
theorem sc_Reader_entries_fit : FnScope sc_Reader_entries_fitN ps_Reader_entries_fit (defScope s_Reader_entries_fit) := ⟨rfl, rfl, rfl, by decide +kernel, rfl, by decide +kernel, by decide +kernel⟩
theorem ok_Reader_entries_fit {f : Addr} {fd : FuncData} (F : Fun K "entries_fit" "Reader.entries_fit" s_Reader_entries_fit f fd) (T : Txt K mg CS) (G : TxG K w mg CG CRd PD) (D_has_block : Dm P w K mg base CRd "has_block" 2 ps_Reader_has_block (spHasB CS CRd)) (D_are_terms : Df P w K mg base "are_terms" 4 ps_are_terms spTerms) : FnOk P w K mg base CX0 5 f fd ps_Reader_entries_fit (spEntFit CS CRd) := by
  refine F.ok sc_Reader_entries_fit (fun vs H Q E h => ?_) (fun cdv A outer s H vs Q E hr h => ?_)
  · obtain ⟨_, _, _, _, _, _, _, _, _, rfl, _⟩ := h
    rfl
  · obtain ⟨r, v, top, ar, d, ts, bs, st, e, rfl, R, hv, he, hp, hk, hm, hz, le, k⟩ := h
    refine ⟨_, (pss_cons (ps_set (i := 4) sc_Reader_entries_fit.nd rfl (Or.inl rfl) (pe_ix ix_tup (pv 1) pe_int (fun _ _ => rfl)))
  (pss_cons (ps_if (PW.pt (pw_or (pt_not (pt_val (pe_dm (pv 0) G.clR D_has_block (hr.mono (by decide)) (pa_cons (pv 4) pa_nil)))) (pw_or (pt_cmpR op_ne (pe_callB call_len_seq (by rfl) T.n_len (by decide +kernel) (pa_cons (pe_dget (Nat.lt_of_le_of_lt (Nat.add_le_add_left (by decide) _) hr.units) (pe_fld (pv 0) rfl) (pv 4) (fun _ _ => rfl)) pa_nil)) pe_int (nomark _)) (pw_or1 (pt_cmpR op_eq (pe_ix ix_list (pe_dget (Nat.lt_of_le_of_lt (Nat.add_le_add_left (by decide) _) hr.units) (pe_fld (pv 0) rfl) (pv 4) (fun _ _ => rfl)) pe_int (fun _ _ => rfl)) (pv 2) (nomark _))))))
    (pss_one (ps_ret pe_bl))
    pss_nil)
  (pss_cons (ps_set (i := 5) sc_Reader_entries_fit.nd rfl (Or.inl rfl) (pe_ix ix_tup (pe_dget (Nat.lt_of_le_of_lt (Nat.add_le_add_left (by decide) _) hr.units) (pe_fld (pv 0) rfl) (pv 4) (fun _ _ => rfl)) pe_int (fun _ _ => rfl)))
  (pss_cons (ps_if (pt_cmpR op_eq (pe_ix ix_tup (pv 1) pe_int (fun _ _ => rfl)) pe_str (nomark _))
    (pss_one (ps_ret (pe_cmpR (op_inT hr.units) (pe_ix ix_tup (pv 1) pe_int (fun _ _ => rfl)) (pv 5) (by rfl))))
    pss_nil)
  (pss_one (ps_ret (pe_or (pe_cmpR op_eq (pe_ix ix_tup (pv 1) pe_int (fun _ _ => rfl)) pe_str (nomark _)) (pe_one (pe_d D_are_terms (hr.mono (by decide)) (pa_cons (pe_ix ix_tup (pv 1) pe_int (fun _ _ => rfl)) (pa_cons (pe_callB call_len_seq (by rfl) T.n_len (by decide +kernel) (pa_cons (pv 5) pa_nil)) (pa_cons (pv 3) pa_nil)))))))))))), ?_⟩
    obtain ⟨a, xs, z, ds, rfl, ha, ed, en, ek, at_, h0, ta⟩ := st_at hv hp
    have erow : isRowD d = true := by rw [ed]; rfl
    have hk : z = "each" ∨ z = "rise" ∨ z = "look" := by
      rw [ek] at hk
      unfold overE at hk
      simpa using hk
    have l3 : 3 ≤ ds.length := by
      rcases hk with q | q | q
      · have := parts_of en (m := 4) (by rw [q]; rfl); omega
      · have := parts_of en (m := 5) (by rw [q]; rfl); omega
      · have := parts_of en (m := 5) (by rw [q]; rfl); omega
    obtain ⟨x2, h2, t2⟩ := at_ 2 (by omega)
    obtain ⟨x3, h3, t3⟩ := at_ 3 (by omega)
    have b2 := pt_bd (d := d) (i := 2) erow
    have b3 := pt_bd (d := d) (i := 3) erow
    refine ⟨_, rfl, a, _, 2, _, rfl, rfl, .inl (.inl ha), atI_nat h2, ?_⟩
    refine ⟨_, rfl, r.x, r.dx, _, rfl, R.hx, rfl, _, rfl, r, x2, pt d 2, ts, bs, st, rfl, R, t2, by omega, fun H1 s1 => ⟨_, rfl, ?_⟩⟩
    have R1 := R.same s1
    have ha1 := s1 _ _ ha
    unfold entFit at k
    cases eb : hasB bs (pt d 2) with
    | false =>
      refine iteT ?_
      have k := k _ s1
      cases e2 : pt d 2 with
      | str b =>
        rw [e2] at k eb
        have eb : (isNm b && (envAt bs b).isSome) = false := eb
        cases q : envAt bs b with
        | none => simp only [q] at k; exact k
        | some p =>
          rw [q, show (some p : Option (List Str × List Str)).isSome = true from rfl, Bool.and_true] at eb
          simp only [q, eb, Bool.false_and] at k
          exact k
      | _ => rw [e2] at k; exact k
    | true =>
      obtain ⟨b, p, e2, nb, eq⟩ := hasB_yes eb
      rw [e2] at k t2
      obtain rfl : x2 = V.str b := t2.strI
      simp only [eq, nb, Bool.true_and] at k
      obtain ⟨l, i, hl, hb, hval, hlst⟩ := R1.val eq
      obtain ⟨kvs, hkv, pe⟩ := R1.bl
      have hkv1 := cutM_sub _ _ hkv
      have htp := cutM_sub _ _ R1.tp
      refine iteF ⟨_, rfl, r.x, CRd, r.dx, _, _, rfl, R1.hx, G.clR, G.rTo, rfl, _, rfl, r.tp, _, rfl, .inl ⟨_, Sum.inr b, .inl htp, rfl, hval.symm⟩, l, _, rfl, .inl (.inl (.inl hlst)), rfl, _, rfl, ?_⟩
      rw [natL_len]
      refine ifn (fun n1 => ?_) fun n1 => ?_
      · have n2 : ¬ (st.tops b).length = 1 := fun q => n1 (by rw [q]; rfl)
        rw [decide_eq_false n2] at k
        exact k _ s1
      · have n2 : (st.tops b).length = 1 := by have q := V.int.inj n1; omega
        obtain ⟨t0, et⟩ := List.length_eq_one_iff.mp n2
        rw [decide_eq_true n2, et] at k
        rw [et] at hlst
        refine ⟨_, rfl, r.x, CRd, r.dx, _, _, rfl, R1.hx, G.clR, G.rTo, rfl, _, rfl, r.tp, _, rfl, .inl ⟨_, Sum.inr b, .inl htp, rfl, hval.symm⟩, l, _, 0, V.int (t0 : Nat), rfl, rfl, .inl (.inl hlst), ix0, _, rfl, rfl, _, rfl, ?_⟩
        have ev : decide (V.int (t0 : Nat) = V.int (top : Nat)) = decide (([t0] : List Nat)[0]? = some top) := decide_eq_decide.mpr ⟨fun q => by have y := V.int.inj q; rw [show t0 = top by omega]; rfl, fun q => by rw [Option.some.inj q]⟩
        rw [ev]
        by_cases et0 : ([t0] : List Nat)[0]? = some top
        · rw [decide_eq_true et0] at k ⊢
          exact iteT (k _ s1)
        · rw [decide_eq_false et0] at k ⊢
          have k : ∀ H', Same H H' → Q (.bl (if kindD d = "rise" then inS (pt d 3) p.1 else decide (kindD d = "each") || termsD e p.1.length (pt d 3))) H' := k
          rw [ek] at k
          rcases env_val b pe with ⟨q1, _⟩ | ⟨ff, xx, q1, q2, ga, fa, sa, rfl, g1, g2, g3⟩
          · rw [eq] at q1; cases q1
          rw [eq] at q1
          cases q1
          have g1 := cutM_sub _ _ g1
          have g2 := cutM_sub _ _ g2
          refine iteF ⟨_, rfl, r.x, CRd, r.dx, _, _, rfl, R1.hx, G.clR, G.rBl, rfl, _, rfl, r.bl, _, rfl, .inl ⟨_, Sum.inr b, .inl hkv1, rfl, q2.symm⟩, ga, _, 0, _, rfl, rfl, .inl (.inl g1), ix0, ?_⟩
          refine ⟨_, rfl, a, _, 0, _, rfl, rfl, .inl (.inl ha1), atI_nat h0, rfl, _, rfl, ifd (fun es => ?_) fun es => ?_⟩
          · rw [if_pos (V.str.inj es)] at k
            exact ⟨_, rfl, a, _, 3, _, rfl, rfl, .inl (.inl ha1), atI_nat h3, _, rfl, fa, _, _, rfl, .inr (.inl (.inl g2)), t3.same s1, k _ s1⟩
          · rw [if_neg fun q => es (by rw [q])] at k
            refine ⟨_, rfl, a, _, 0, _, rfl, rfl, .inl (.inl ha1), atI_nat h0, rfl, decide (V.str z = V.str "each"), rfl, ?_⟩
            have er : decide (V.str z = V.str "each") = decide (z = "each") := decide_eq_decide.mpr ⟨V.str.inj, fun q => by rw [q]⟩
            rw [er]
            by_cases ez2 : z = "each"
            · rw [decide_eq_true ez2] at k ⊢
              exact iteT (k _ s1)
            · rw [decide_eq_false ez2, Bool.false_or] at k
              rw [decide_eq_false ez2]
              refine iteF ⟨_, rfl, a, _, 3, _, rfl, rfl, .inl (.inl ha1), atI_nat h3, _, rfl, fa, _, rfl, .inr (.inl (.inl g2)), _, rfl, x3, p.1.length, ar, _, e, by rw [List.length_map]; rfl, t3.same s1, he.same s1, by omega, by omega, le, fun H2 s2 => k _ (s1.trans s2)⟩
end
end Fm

/-! ## K08Y -/
set_option Elab.async false
set_option maxRecDepth 100000
set_option maxHeartbeats 8000000
namespace Fm
open PySem L2
theorem ask_val {l : List Str} {s : Str} : (valV (askK l) (Sum.inr s : Key)).isSome = decide (s ∈ l) := by
  induction l with
  | nil => rfl
  | cons t l ih =>
    show (valV (((Sum.inr t : Key), V.bl true) :: askK l) _).isSome = _
    by_cases e : t = s
    · rw [valV_pos (congrArg Sum.inr e), decide_eq_true (by rw [e]; exact List.mem_cons_self)]
      rfl
    · rw [valV_neg (fun z => e (Sum.inr.inj z)), ih]
      exact decide_eq_decide.mpr ⟨fun m => List.mem_cons_of_mem _ m, fun m => (List.mem_cons.mp m).resolve_left (Ne.symm e)⟩
theorem inV_nat (n : Nat) (l : List Nat) : inV (V.int (n : Nat)) (natL l) = decide (n ∈ l) := by
  unfold inV natL
  rw [List.any_map]
  by_cases h : n ∈ l
  · rw [decide_eq_true h, List.any_eq_true]
    exact ⟨n, h, by show eqV (V.int n) (V.int n) = true; simp [eqV]⟩
  · rw [decide_eq_false h, List.any_eq_false]
    intro m hm e
    have e : eqV (V.int (m : Nat)) (V.int (n : Nat)) = true := e
    have e2 : m = n := by
      have q : (m : Int) = (n : Int) := by simpa [eqV] using e
      omega
    exact h (e2 ▸ hm)
theorem flat_nat (l : List Nat) : (natL l).all flatV = true := by
  unfold natL
  rw [List.all_map]
  exact List.all_eq_true.mpr fun _ _ => rfl
section
variable {P : Program} {w : World} {K : PySem.W.Frag} {mg : Str → Option Value} {base : Heap} {CS CG CRd PD : Addr}
def spPutFit (CS CRd : Addr) : Sp := fun vs H Q _ => ∃ (r : RdA) (v : V) (top : Nat) (ar : Addr) (d : PyData) (ts : List Tab) (bs : Env) (st : RS) (e : Env), vs = [.ref r.x, v, .int (top : Nat), .ref ar] ∧ RdAt CS CRd H r ts bs st ∧ Tp H v d ∧ EnvAt H ar e ∧ hasPD d = true ∧ kindD d = "put" ∧ mst d ≤ 100000 ∧ siz d ≤ 90000 ∧ e.length ≤ 1000 ∧ (e.map (·.1)).Nodup ∧ ∀ H', Same H H' → Q (.bl (putFit bs st top e d)) H'
abbrev s_Reader_put_fits : Stmt := inClass (topS 37) 6
abbrev sc_Reader_put_fitsN : List Str := ["self", "statement", "top", "around", "_", "block", "terms", "adds", "fields", "sums", "products"]
abbrev ps_Reader_put_fits : List Str := ["self", "statement", "top", "around"]
theorem sc_Reader_put_fits : FnScope sc_Reader_put_fitsN ps_Reader_put_fits (defScope s_Reader_put_fits) := ⟨rfl, rfl, rfl, by decide +kernel, rfl, by decide +kernel, by decide +kernel⟩
theorem ok_Reader_put_fits {f : Addr} {fd : FuncData} (F : Fun K "put_fits" "Reader.put_fits" s_Reader_put_fits f fd) (T : Txt K mg CS) (G : TxG K w mg CG CRd PD) (D_has_block : Dm P w K mg base CRd "has_block" 2 ps_Reader_has_block (spHasB CS CRd)) (D_are_terms : Df P w K mg base "are_terms" 4 ps_are_terms spTerms) (D_is_row : Df P w K mg base "is_row" 1 ps_is_row (spIsRow K)) (D_are_products : Df P w K mg base "are_products" 4 ps_are_products spProds) : FnOk P w K mg base CX0 5 f fd ps_Reader_put_fits (spPutFit CS CRd) := by
  refine F.ok sc_Reader_put_fits (fun vs H Q E h => ?_) (fun cdv A outer s H vs Q E hr h => ?_)
  · obtain ⟨_, _, _, _, _, _, _, _, _, rfl, _⟩ := h
    rfl
  · obtain ⟨r, v, top, ar, d, ts, bs, st, e, rfl, R, hv, he, hp, hk, hm, hz, le, nde, k⟩ := h
    refine ⟨_, (pss_cons (ps_asg (pv 1) (pg_tup (by rfl) (pgs_cons (pg_name (i := 4) sc_Reader_put_fits.nd rfl (Or.inl rfl)) (pgs_cons (pg_name (i := 5) sc_Reader_put_fits.nd rfl (Or.inl rfl)) (pgs_cons (pg_name (i := 6) sc_Reader_put_fits.nd rfl (Or.inl rfl)) (pgs_cons (pg_name (i := 7) sc_Reader_put_fits.nd rfl (Or.inl rfl)) pgs_nil))))))
  (pss_cons (ps_if (PW.pt (pw_or (pt_not (pt_val (pe_dm (pv 0) G.clR D_has_block (hr.mono (by decide)) (pa_cons (pv 5) pa_nil)))) (pw_or (pt_cmpR op_in_seq (pv 2) (pe_dget (Nat.lt_of_le_of_lt (Nat.add_le_add_left (by decide) _) hr.units) (pe_fld (pv 0) rfl) (pv 5) (fun _ _ => rfl)) (by rfl)) (pw_or1 (pt_cmp (pc_din (Nat.lt_of_le_of_lt (Nat.add_le_add_left (by decide) _) hr.units) (pv 5) (pe_fld (pv 0) rfl)) (by rfl))))))
    (pss_one (ps_ret pe_bl))
    pss_nil)
  (pss_cons (ps_asg (pe_dget (Nat.lt_of_le_of_lt (Nat.add_le_add_left (by decide) _) hr.units) (pe_fld (pv 0) rfl) (pv 5) (fun _ _ => rfl)) (pg_tup (by rfl) (pgs_cons (pg_name (i := 8) sc_Reader_put_fits.nd rfl (Or.inl rfl)) (pgs_cons (pg_name (i := 9) sc_Reader_put_fits.nd rfl (Or.inl rfl)) pgs_nil))))
  (pss_cons (ps_if (PW.pt (pw_or (pt_not (pt_val (pe_d D_are_terms (hr.mono (by decide)) (pa_cons (pv 6) (pa_cons (pe_callB call_len_seq (by rfl) T.n_len (by decide +kernel) (pa_cons (pv 8) pa_nil)) (pa_cons (pv 3) pa_nil)))))) (pw_or1 (pt_not (pt_val (pe_d D_is_row (hr.mono (by decide)) (pa_cons (pv 7) (pa_cons (pe_callB call_len_seq (by rfl) T.n_len (by decide +kernel) (pa_cons (pv 9) pa_nil)) (pa_cons (pe_callB call_len_seq (by rfl) T.n_len (by decide +kernel) (pa_cons (pv 9) pa_nil)) pa_nil)))))))))
    (pss_one (ps_ret pe_bl))
    pss_nil)
  (pss_one (ps_ret (pe_callB (cr_all (by rfl)) (by rfl) T.n_all (by decide +kernel) (pa_cons (pe_lc (own := [("products", 10)]) (g := gName 10) (tt := tYes) (by rfl) sc_Reader_put_fits.nd (pi_any (pv 7)) (blkOk_by (own := [("products", 10)]) (N := sc_Reader_put_fitsN) (sc := defScope s_Reader_put_fits) (by decide +kernel)) (fun _ _ _ _ _ => pg_name (i := 10) sc_Reader_put_fits.nd rfl (Or.inl rfl)) (fun _ _ _ _ _ => pts_nil) (fun _ _ _ _ _ => (pe_d D_are_products (hr.mono (by decide)) (pa_cons (pv 10) (pa_cons (pv 3) pa_nil))))) pa_nil)))))))), ?_⟩
    obtain ⟨a, xs, z, ds, rfl, ha, ed, en, ek, at_, h0, ta⟩ := st_at hv hp
    have erow : isRowD d = true := by rw [ed]; rfl
    rw [ek] at hk
    subst hk
    have l3 := parts_of en (m := 4) rfl
    obtain ⟨d1, d2, d3, rfl⟩ : ∃ d1 d2 d3, ds = [d1, d2, d3] := by
      match ds, l3 with
      | [a, b, c], _ => exact ⟨a, b, c, rfl⟩
    have b1 := pt_bd (d := d) (i := 1) erow
    have b2 := pt_bd (d := d) (i := 2) erow
    have b3 := pt_bd (d := d) (i := 3) erow
    subst ed
    have b1 : mst d1 ≤ _ ∧ _ := b1
    have b2 : mst d2 ≤ _ ∧ siz d2 ≤ _ := b2
    have b3 : mst d3 ≤ _ ∧ siz d3 ≤ _ := b3
    cases ta with | cons t0 ta => cases ta with | cons t1 ta => cases ta with | cons t2 ta => cases ta with | cons t3 ta =>
    cases ta
    rename_i x0 x1 x2 x3
    have k : ∀ H', Same H H' → Q (.bl (putFit3 bs st top e d1 d2 d3)) H' := k
    unfold putFit3 at k
    refine ⟨_, rfl, a, _, rfl, .inl (.inl ha), rfl, _, _, rfl, _, _, rfl, _, _, rfl, _, _, rfl, rfl, ?_⟩
    refine ⟨_, rfl, r.x, r.dx, _, rfl, R.hx, rfl, _, rfl, r, x1, d1, ts, bs, st, rfl, R, t1, by omega, fun H1 s1 => ⟨_, rfl, ?_⟩⟩
    have R1 := R.same s1
    cases eb : hasB bs d1 with
    | false =>
      refine iteT ?_
      have k := k _ s1
      cases d1 with
      | str b =>
        have eb : (isNm b && (envAt bs b).isSome) = false := eb
        cases q : envAt bs b with
        | none => simp only [q] at k; exact k
        | some p =>
          rw [q, show (some p : Option (List Str × List Str)).isSome = true from rfl, Bool.and_true] at eb
          simp only [q, eb, Bool.false_and] at k
          exact k
      | _ => exact k
    | true =>
      obtain ⟨b, p, rfl, nb, eq⟩ := hasB_yes eb
      obtain rfl : x1 = V.str b := t1.strI
      simp only [eq, nb, Bool.true_and] at k
      obtain ⟨l, i, hl, hb, hval, hlst⟩ := R1.val eq
      obtain ⟨kvs, hkv, pe⟩ := R1.bl
      have hkv1 := cutM_sub _ _ hkv
      have htp := cutM_sub _ _ R1.tp
      refine iteF ⟨_, rfl, _, rfl, r.x, CRd, r.dx, _, _, rfl, R1.hx, G.clR, G.rTo, rfl, _, rfl, r.tp, _, rfl, .inl ⟨_, Sum.inr b, .inl htp, rfl, hval.symm⟩, l, _, rfl, .inl (.inl (.inl hlst)), rfl, flat_nat _, _, rfl, ?_⟩
      show (if inV (V.int (top : Nat)) (natL (st.tops b)) = true then _ else _)
      rw [inV_nat]
      refine ifd (fun y1 => ?_) fun y1 => ?_
      · rw [decide_eq_true y1] at k
        exact k _ s1
      · rw [decide_eq_false y1] at k
        refine ⟨_, rfl, _, rfl, r.x, CRd, r.dx, _, _, rfl, R1.hx, G.clR, G.rAs, rfl, r.as, valV (askK st.asked) (Sum.inr b : Key), rfl, .inl ⟨_, Sum.inr b, .inl R1.as, rfl, rfl⟩, _, rfl, ?_⟩
        rw [ask_val]
        refine ifd (fun y2 => ?_) fun y2 => ?_
        · rw [decide_eq_true y2] at k
          exact k _ s1
        · rw [decide_eq_false y2] at k
          have k : ∀ H', Same H H' → Q (.bl ((termsD e p.1.length d2 && rowD3 p.2.length p.2.length d3) && (partsD d3).all (prodsD e))) H' := k
          rcases env_val b pe with ⟨q1, _⟩ | ⟨ff, xx, q1, q2, ga, fa, sa, rfl, g1, g2, g3⟩
          · rw [eq] at q1; cases q1
          rw [eq] at q1
          cases q1
          have g1 := cutM_sub _ _ g1
          have g2 := cutM_sub _ _ g2
          have g3 := cutM_sub _ _ g3
          refine ⟨_, rfl, r.x, CRd, r.dx, _, _, rfl, R1.hx, G.clR, G.rBl, rfl, _, rfl, r.bl, _, rfl, .inl ⟨_, Sum.inr b, .inl hkv1, rfl, q2.symm⟩, ga, _, rfl, .inl (.inl g1), rfl, _, _, rfl, _, _, rfl, rfl, ?_⟩
          refine ⟨_, rfl, _, rfl, fa, _, rfl, .inr (.inl (.inl g2)), _, rfl, x2, p.1.length, ar, d2, e, by rw [List.length_map]; rfl, t2.same s1, he.same s1, by omega, by omega, le, fun H2 s2 => ⟨_, rfl, ?_⟩⟩
          cases et : termsD e p.1.length d2 with
          | false =>
            rw [et] at k
            exact iteT (k _ (s1.trans s2))
          | true =>
            rw [et, Bool.true_and] at k
            refine iteF ⟨_, rfl, _, rfl, sa, _, rfl, .inr (.inl (.inl (s2 _ _ g3))), _, rfl, sa, _, rfl, .inr (.inl (.inl (s2 _ _ g3))), x3, d3, (p.2.length : Nat), (p.2.length : Nat), by rw [List.length_map]; rfl, t3.same (s1.trans s2), fun H3 s3 => ⟨_, rfl, ?_⟩⟩
            have s13 := (s1.trans s2).trans s3
            cases er : rowD3 p.2.length p.2.length d3 with
            | false =>
              rw [er] at k
              exact iteT (k _ s13)
            | true =>
              rw [er, Bool.true_and] at k
              obtain ⟨e1, _, _⟩ := rowD3_row er
              obtain ⟨aa, ys, rfl, hx, hy⟩ := (t3.same s13).row e1
              have ls := siz_len (partsD d3)
              have b3' := b3
              rw [siz_row e1, mst_row e1] at b3'
              refine iteF ⟨_, rfl, aa, ys, rfl, any_of (K := K) (rw_sq hx) (Same.refl _) fun J GG gm wk => (fun D hD => ?_)⟩
              refine lc_it wk (fun i H' => Same H3 H' ∧ H' D = some (.lst (((partsD d3).take i).map fun c => V.bl (prodsD e c)))) ⟨same_new _ hD, by rw [upd_same]; rfl⟩ (fun i H' _ z => gm H' z.1) ?_ ?_
              · rintro i x H4 H5 hi2 ⟨s4, d4⟩ ⟨rfl, hxi⟩
                obtain ⟨c, hc, hcv⟩ := hy.at hxi
                have mc := mst_mem (List.mem_of_getElem? hc)
                have zc := siz_mem (List.mem_of_getElem? hc)
                refine ⟨rfl, _, rfl, _, rfl, x, ar, c, e, rfl, hcv.same s4, (he.same s13).same s4, by omega, by omega, le, nde, fun H6 s6 => ?_⟩
                refine ⟨_, s6 _ _ d4, take_lt _ (by omega), same_put (s4.trans s6) _ hD, ?_⟩
                rw [upd_same, map_take _ hc]
              · rintro H4 ⟨s4, d4⟩
                rw [hy.len, List.take_length, bl_map (f := prodsD e)] at d4
                refine ⟨D, _, rfl, .inl (.inl d4), ?_⟩
                rw [List.all_map]
                exact k _ (s13.trans s4)
/-- all that is looked at in one statement -/
def spFits (CS CRd : Addr) : Sp := fun vs H Q _ => ∃ (r : RdA) (v : V) (top : Nat) (ar : Addr) (d : PyData) (ts : List Tab) (bs : Env) (st : RS) (e : Env), vs = [.ref r.x, v, .int (top : Nat), .ref ar] ∧ RdAt CS CRd H r ts bs st ∧ Tp H v d ∧ EnvAt H ar e ∧ mst d ≤ 100000 ∧ siz d ≤ 90000 ∧ e.length ≤ 1000 ∧ (e.map (·.1)).Nodup ∧ ∀ H', Same H H' → Q (.bl (fitsD ts bs st top e d)) H'
theorem kinds_of {z : Str} {n : Nat} (h : partsN z = some n) : z = "scan" ∨ z = "run" ∨ z = "seek" ∨ z = "each" ∨ z = "rise" ∨ z = "look" ∨ z = "same" ∨ z = "put" := by
  unfold partsN at h
  by_cases h1 : z = "scan"; · exact .inl h1
  by_cases h2 : z = "run"; · exact .inr (.inl h2)
  by_cases h3 : z = "seek"; · exact .inr (.inr (.inl h3))
  by_cases h4 : z = "each"; · exact .inr (.inr (.inr (.inl h4)))
  by_cases h5 : z = "rise"; · exact .inr (.inr (.inr (.inr (.inl h5))))
  by_cases h6 : z = "look"; · exact .inr (.inr (.inr (.inr (.inr (.inl h6)))))
  by_cases h7 : z = "same"; · exact .inr (.inr (.inr (.inr (.inr (.inr (.inl h7))))))
  by_cases h8 : z = "put"; · exact .inr (.inr (.inr (.inr (.inr (.inr (.inr h8))))))
  rw [if_neg h1, if_neg h2, if_neg h3, if_neg h4, if_neg h5, if_neg h6, if_neg h7, if_neg h8] at h
  cases h
theorem atI_m1 {xs : List V} {v : V} (h : xs[xs.length - 1]? = some v) : atI xs (-1) = some v := by
  have hl := (List.getElem?_eq_some_iff.mp h).1
  have ne : xs ≠ [] := fun q => by rw [q] at hl; cases hl
  have e := List.dropLast_concat_getLast ne
  have ev : xs.getLast ne = v := by
    rw [List.getLast_eq_getElem]
    exact (List.getElem?_eq_some_iff.mp h).2
  rw [← e, ev]
  exact atI_last _ _
theorem lastD_pt {d : PyData} : (partsD d).getLastD .none = pt d ((partsD d).length - 1) := by
  unfold pt
  rw [List.getLastD_eq_getLast?, List.getLast?_eq_getElem?, List.getD_eq_getElem?_getD]
abbrev s_Reader_fits : Stmt := inClass (topS 37) 3
abbrev sc_Reader_fitsN : List Str := ["self", "statement", "top", "around", "kind"]
abbrev ps_Reader_fits : List Str := ["self", "statement", "top", "around"]
theorem sc_Reader_fits : FnScope sc_Reader_fitsN ps_Reader_fits (defScope s_Reader_fits) := ⟨rfl, rfl, rfl, by decide +kernel, rfl, by decide +kernel, by decide +kernel⟩
theorem ok_Reader_fits {f : Addr} {fd : FuncData} (F : Fun K "fits" "Reader.fits" s_Reader_fits f fd) (T : Txt K mg CS) (G : TxG K w mg CG CRd PD) (D_has_parts : Df P w K mg base "has_parts" 1 ps_has_parts spHasP) (D_put_fits : Dm P w K mg base CRd "put_fits" 5 ps_Reader_put_fits (spPutFit CS CRd)) (D_is_row : Df P w K mg base "is_row" 1 ps_is_row (spIsRow K)) (D_is_term : Df P w K mg base "is_term" 3 ps_is_term spTerm) (D_is_name : Df P w K mg base "is_name" 1 ps_is_name (spIsName K)) (D_goes_over_entries : Df P w K mg base "goes_over_entries" 1 ps_goes_over_entries spOver) (D_entries_fit : Dm P w K mg base CRd "entries_fit" 5 ps_Reader_entries_fit (spEntFit CS CRd)) (D_rows_fit : Dm P w K mg base CRd "rows_fit" 4 ps_Reader_rows_fit (spRowsFit CS CRd)) : FnOk P w K mg base CX0 6 f fd ps_Reader_fits (spFits CS CRd) := by
  refine F.ok sc_Reader_fits (fun vs H Q E h => ?_) (fun cdv A outer s H vs Q E hr h => ?_)
  · obtain ⟨_, _, _, _, _, _, _, _, _, rfl, _⟩ := h
    rfl
  · obtain ⟨r, v, top, ar, d, ts, bs, st, e, rfl, R, hv, he, hm, hz, le, nde, k⟩ := h
    refine ⟨_, (pss_cons (ps_if (pt_not (pt_val (pe_d D_has_parts (hr.mono (by decide)) (pa_cons (pv 1) pa_nil))))
    (pss_one (ps_ret pe_bl))
    pss_nil)
  (pss_cons (ps_set (i := 4) sc_Reader_fits.nd rfl (Or.inl rfl) (pe_ix ix_tup (pv 1) pe_int (fun _ _ => rfl)))
  (pss_cons (ps_if (pt_cmpR op_eq (pv 4) pe_str (nomark _))
    (pss_one (ps_ret (pe_dm (pv 0) G.clR D_put_fits (hr.mono (by decide)) (pa_cons (pv 1) (pa_cons (pv 2) (pa_cons (pv 3) pa_nil))))))
    pss_nil)
  (pss_cons (ps_if (pt_not (pt_val (pe_d D_is_row (hr.mono (by decide)) (pa_cons (pe_ix ix_tup (pv 1) (pe_un un_neg pe_int) (fun _ _ => rfl)) (pa_cons pe_int (pa_cons (pe_gI T.g_MOST_IN_A_BODY) pa_nil))))))
    (pss_one (ps_ret pe_bl))
    pss_nil)
  (pss_cons (ps_if (pt_cmpR op_eq (pv 4) pe_str (nomark _))
    (pss_one (ps_ret (pe_and (pe_d D_is_term (hr.mono (by decide)) (pa_cons (pe_ix ix_tup (pv 1) pe_int (fun _ _ => rfl)) (pa_cons (pv 3) pa_nil))) (pe_one (pe_d D_is_term (hr.mono (by decide)) (pa_cons (pe_ix ix_tup (pv 1) pe_int (fun _ _ => rfl)) (pa_cons (pv 3) pa_nil)))))))
    pss_nil)
  (pss_cons (ps_if (PW.pt (pw_or (pt_not (pt_val (pe_d D_is_name (hr.mono (by decide)) (pa_cons (pe_ix ix_tup (pv 1) pe_int (fun _ _ => rfl)) pa_nil)))) (pw_or1 (pt_cmp (pc_din (Nat.lt_of_le_of_lt (Nat.add_le_add_left (by decide) _) hr.units) (pe_ix ix_tup (pv 1) pe_int (fun _ _ => rfl)) (pv 3)) (by rfl)))))
    (pss_one (ps_ret pe_bl))
    pss_nil)
  (pss_cons (ps_if (pt_val (pe_d D_goes_over_entries (hr.mono (by decide)) (pa_cons (pv 4) pa_nil)))
    (pss_one (ps_ret (pe_dm (pv 0) G.clR D_entries_fit (hr.mono (by decide)) (pa_cons (pv 1) (pa_cons (pv 2) (pa_cons (pv 3) pa_nil))))))
    pss_nil)
  (pss_one (ps_ret (pe_dm (pv 0) G.clR D_rows_fit (hr.mono (by decide)) (pa_cons (pv 1) (pa_cons (pv 3) pa_nil)))))))))))), ?_⟩
    refine ⟨_, rfl, v, d, rfl, hv, fun H1 s1 => ⟨_, rfl, ?_⟩⟩
    unfold fitsD at k
    cases hp : hasPD d with
    | false =>
      rw [hp] at k
      exact iteT (k _ s1)
    | true =>
      rw [hp, Bool.true_and] at k
      obtain ⟨a, xs, z, ds, rfl, ha, ed, en, ek, at_, h0, ta⟩ := st_at (hv.same s1) hp
      have erow : isRowD d = true := by rw [ed]; rfl
      have R1 := R.same s1
      have he1 := he.same s1
      rw [ek] at k
      refine iteF ⟨_, rfl, a, _, 0, _, rfl, rfl, .inl (.inl ha), atI_nat h0, ?_⟩
      refine ⟨_, rfl, rfl, _, rfl, ifd (fun ez => ?_) fun ez => ?_⟩
      · have ez : z = "put" := V.str.inj ez
        rw [if_pos ez] at k
        exact ⟨_, rfl, r.x, r.dx, _, rfl, R1.hx, rfl, _, rfl, _, rfl, _, rfl, r, .ref a, top, ar, d, ts, bs, st, e, rfl, R1, hv.same s1, he1, hp, by rw [ek, ez], hm, hz, le, nde, fun H2 s2 => k _ (s1.trans s2)⟩
      · rw [if_neg fun q => ez (by rw [q])] at k
        rw [lastD_pt] at k
        have lds : (partsD d).length = ds.length + 1 := by rw [ed]; rfl
        have l3 : 3 ≤ ds.length := by
          rcases kinds_of en with q | q | q | q | q | q | q | q
          · have := parts_of en (m := 4) (by rw [q]; rfl); omega
          · have := parts_of en (m := 5) (by rw [q]; rfl); omega
          · have := parts_of en (m := 6) (by rw [q]; rfl); omega
          · have := parts_of en (m := 4) (by rw [q]; rfl); omega
          · have := parts_of en (m := 5) (by rw [q]; rfl); omega
          · have := parts_of en (m := 5) (by rw [q]; rfl); omega
          · have := parts_of en (m := 4) (by rw [q]; rfl); omega
          · have := parts_of en (m := 4) (by rw [q]; rfl); omega
        obtain ⟨xl, hl, tl⟩ := at_ ds.length (by omega)
        obtain ⟨x1, h1, t1⟩ := at_ 1 (by omega)
        obtain ⟨x2, h2, t2⟩ := at_ 2 (by omega)
        have lxs : xs.length = ds.length + 1 := ta.len
        rw [lds, show ds.length + 1 - 1 = ds.length from rfl] at k
        have b1 := pt_bd (d := d) (i := 1) erow
        have b2 := pt_bd (d := d) (i := 2) erow
        refine ⟨_, rfl, _, rfl, a, xs, _, _, rfl, rfl, .inl (.inl ha), atI_m1 (by rw [lxs]; exact hl), xl, _, 1, 8, rfl, tl, fun H2 s2 => ⟨_, rfl, ?_⟩⟩
        have s12 := s1.trans s2
        cases er : rowD3 1 8 (pt d ds.length) with
        | false =>
          rw [er] at k
          exact iteT (k _ s12)
        | true =>
          rw [er, Bool.true_and] at k
          have ha2 := s2 _ _ ha
          refine iteF ⟨_, rfl, rfl, _, rfl, ifd (fun es => ?_) fun es => ?_⟩
          · rw [if_pos (V.str.inj es)] at k
            refine ⟨_, rfl, a, _, 1, _, rfl, rfl, .inl (.inl ha2), atI_nat h1, _, rfl, x1, ar, _, e, rfl, t1.same s2, he1.same s2, by omega, le, fun H3 s3 => ⟨_, rfl, ?_⟩⟩
            cases et : termD e (pt d 1) with
            | false =>
              rw [et] at k
              exact iteF (k _ (s12.trans s3))
            | true =>
              rw [et, Bool.true_and] at k
              exact iteT ⟨_, rfl, a, _, 2, _, rfl, rfl, .inl (.inl (s3 _ _ ha2)), atI_nat h2, _, rfl, x2, ar, _, e, rfl, (t2.same s2).same s3, (he1.same s2).same s3, by omega, le, fun H4 s4 => k _ ((s12.trans s3).trans s4)⟩
          · rw [if_neg fun q => es (by rw [q])] at k
            refine ⟨_, rfl, a, _, 1, _, rfl, rfl, .inl (.inl ha2), atI_nat h1, x1, isNmD (pt d 1), rfl, nm_case (t1.same s2) (by omega), fun H3 s3 => ⟨_, rfl, ?_⟩⟩
            have s13 := s12.trans s3
            cases enm : isNmD (pt d 1) with
            | false =>
              have e0 : freeD e (pt d 1) = false := by
                cases q : pt d 1 with
                | str b =>
                  rw [q] at enm
                  have enm : isNm b = false := enm
                  show (isNm b && _) = false
                  rw [enm]
                  rfl
                | _ => rfl
              rw [e0] at k
              exact iteT (k _ s13)
            | true =>
              obtain ⟨b, eb, nb⟩ := nmD_str enm
              rw [eb] at k t1
              obtain rfl : x1 = V.str b := t1.strI
              have k : ∀ H', Same H H' → Q (.bl ((isNm b && !(envAt e b).isSome) && (if overE z = true then entFit bs st top e d else rowsFit ts e d))) H' := k
              rw [nb, Bool.true_and] at k
              obtain ⟨kvs, hk, pe⟩ := (he1.same s2).same s3
              have hv13 := hv.same s13
              have R3 := (R1.same s2).same s3
              have he3 : EnvAt _ ar e := ⟨kvs, hk, pe⟩
              refine iteF ⟨_, rfl, a, _, 1, _, rfl, rfl, .inl (.inl (s3 _ _ ha2)), atI_nat h1, _, rfl, ar, valV kvs (Sum.inr b : Key), rfl, .inl ⟨_, Sum.inr b, .inl hk, rfl, rfl⟩, _, rfl, ?_⟩
              rw [has_val pe b]
              cases eh : (envAt e b).isSome with
              | true =>
                rw [eh] at k
                exact iteT (k _ s13)
              | false =>
                rw [eh] at k
                have k : ∀ H', Same H H' → Q (.bl (if overE z = true then entFit bs st top e d else rowsFit ts e d)) H' := k
                refine iteF ⟨_, rfl, z, rfl, fun H4 s4 => ⟨_, rfl, ?_⟩⟩
                have s14 := s13.trans s4
                cases eo : overE z with
                | true =>
                  rw [eo, if_pos rfl] at k
                  exact iteT ⟨_, rfl, r.x, r.dx, _, rfl, (R3.same s4).hx, rfl, _, rfl, _, rfl, _, rfl, r, .ref a, top, ar, d, ts, bs, st, e, rfl, R3.same s4, hv13.same s4, he3.same s4, hp, by rw [ek, eo], hm, hz, le, fun H5 s5 => k _ (s14.trans s5)⟩
                | false =>
                  rw [eo, if_neg Bool.false_ne_true] at k
                  have hk3 : z = "scan" ∨ z = "run" ∨ z = "seek" := by
                    rcases kinds_of en with q | q | q | q | q | q | q | q
                    · exact .inl q
                    · exact .inr (.inl q)
                    · exact .inr (.inr q)
                    · rw [q] at eo; exact absurd eo (by decide)
                    · rw [q] at eo; exact absurd eo (by decide)
                    · rw [q] at eo; exact absurd eo (by decide)
                    · exact absurd (by rw [q]) es
                    · exact absurd (by rw [q]) ez
                  exact iteF ⟨_, rfl, r.x, r.dx, _, rfl, (R3.same s4).hx, rfl, _, rfl, _, rfl, r, .ref a, ar, d, ts, bs, st, e, rfl, R3.same s4, hv13.same s4, he3.same s4, hp, by rw [ek]; exact hk3, hm, le, fun H5 s5 => k _ (s14.trans s5)⟩
end
end Fm

/-! ## K08Z -/
set_option Elab.async false
set_option maxRecDepth 100000
set_option maxHeartbeats 8000000
namespace Fm
open PySem L2
def nameD : PyData → Str
  | .str s => s
  | _ => ""
/-- what the reader knows behind a statement -/
def noteS (st : RS) (top : Nat) (d : PyData) : RS :=
  if kindD d = "put" then { st with tops := fun s => if nameD (pt d 1) = s then st.tops s ++ [top] else st.tops s }
  else if overE (kindD d) = true then { st with asked := if nameD (pt d 2) ∈ st.asked then st.asked else st.asked ++ [nameD (pt d 2)] } else st
/-- what stands around the body of a statement -/
def withinD (ts : List Tab) (bs e : Env) (d : PyData) : Env :=
  if kindD d = "same" then e else e ++ [(nameD (pt d 1), if overE (kindD d) = true then (envAt bs (nameD (pt d 2))).getD ([], []) else (foT ts (pt d 2), []))]
/-- all but the reader's own things stays -/
def SameM (M : List Addr) (H H' : Hp) : Prop := ∀ a o, a ∉ M → H a = some o → H' a = some o
theorem SameM.of {M : List Addr} {H H' : Hp} (s : Same H H') : SameM M H H' := fun a o _ e => s a o e
theorem SameM.trans {M : List Addr} {H H1 H2 : Hp} (s : SameM M H H1) (t : SameM M H1 H2) : SameM M H H2 := fun a o n e => t a o n (s a o n e)
theorem SameM.cut {M : List Addr} {H H' : Hp} (s : SameM M H H') : Same (cutM H M) (cutM H' M) := fun a o e => by
  unfold cutM at e ⊢
  split at e
  · cases e
  · rename_i n
    rw [if_neg n]
    exact s a o n e
theorem SameM.put {M : List Addr} {H : Hp} {a : Addr} (o : HO) (h : a ∈ M) : SameM M H (upd H a o) := fun b u n e => by
  rw [upd_ne fun q => n (by rw [q]; exact h)]
  exact e
theorem ask_put {l : List Str} {b : Str} : putK (askK l) (Sum.inr b) (V.bl true) = askK (if b ∈ l then l else l ++ [b]) := by
  by_cases m : b ∈ l
  · rw [if_pos m]
    unfold putK
    have a : ((askK l).any fun kv => decide (kv.1 = (Sum.inr b : Key))) = true := List.any_eq_true.mpr ⟨(Sum.inr b, V.bl true), List.mem_map.mpr ⟨b, m, rfl⟩, decide_eq_true rfl⟩
    rw [if_pos a]
    unfold askK
    rw [List.map_map]
    refine List.map_congr_left fun s _ => ?_
    show (if (Sum.inr s : Key) = Sum.inr b then ((Sum.inr s : Key), V.bl true) else (Sum.inr s, V.bl true)) = _
    split <;> rfl
  · rw [if_neg m]
    have z : valV (askK l) (Sum.inr b : Key) = none := by
      have y := ask_val (l := l) (s := b)
      rw [decide_eq_false m] at y
      cases q : valV (askK l) (Sum.inr b : Key) with
      | none => rfl
      | some _ => rw [q] at y; cases y
    rw [putK_new _ z]
    unfold askK
    rw [List.map_append]
    rfl
section
variable {P : Program} {w : World} {K : PySem.W.Frag} {mg : Str → Option Value} {base : Heap} {CS CG CRd PD CN : Addr}
theorem RdAt.putL {H : Hp} {r : RdA} {ts : List Tab} {bs : Env} {st : RS} (R : RdAt CS CRd H r ts bs st) {b : Str} {p : List Str × List Str} {i : Nat} {l : Addr} (hb : bs[i]? = some (b, p)) (hl : r.ls[i]? = some l) (n : Nat) (hm : (st.tops b).length < st.many) :
    RdAt CS CRd (upd H l (.lst (natL (st.tops b) ++ [V.int (n : Nat)]))) r ts bs { st with tops := fun s => if b = s then st.tops s ++ [n] else st.tops s } ∧ l ∈ r.M := by
  have ml : l ∈ r.M := List.mem_cons_of_mem _ (List.mem_cons_of_mem _ (List.mem_of_getElem? hl))
  have hL := R.lt i _ l hb hl
  have nx : r.x ≠ l := fun q => by have y := R.hx; rw [q, hL] at y; cases y
  have na : r.as ≠ l := fun q => by have y := R.as; rw [q, hL] at y; cases y
  refine ⟨⟨by rw [upd_ne nx]; exact R.hx, by rw [cutM_put ml]; exact R.sh, by rw [cutM_put ml]; exact R.bl, by rw [cutM_put ml]; exact R.tp, by rw [upd_ne na]; exact R.as, R.ll, R.nd, fun j c l2 h1 h2 => ?_, R.nb, R.few, R.m1, fun s => ?_, R.al⟩, ml⟩
  · by_cases e : j = i
    · subst e
      rw [hb] at h1
      cases h1
      rw [hl] at h2
      cases h2
      rw [upd_same]
      show _ = some (HO.lst (natL (if b = b then st.tops b ++ [n] else st.tops b)))
      rw [if_pos rfl]
      unfold natL
      rw [List.map_append]
      rfl
    · have nl : l2 ≠ l := fun q => by
        rw [q] at h2
        exact e ((List.getElem?_inj (List.getElem?_eq_some_iff.mp h2).1 R.nd).mp (h2.trans hl.symm))
      have nb : ¬ b = c.1 := fun q => by
        have k1 : (bs.map (·.1))[j]? = some b := by rw [List.getElem?_map, h1, q]; rfl
        have k2 : (bs.map (·.1))[i]? = some b := by rw [List.getElem?_map, hb]; rfl
        exact e ((List.getElem?_inj (List.getElem?_eq_some_iff.mp k1).1 R.nb).mp (k1.trans k2.symm))
      rw [upd_ne nl]
      show _ = some (HO.lst (natL (if b = c.1 then _ else st.tops c.1)))
      rw [if_neg nb]
      exact R.lt j c l2 h1 h2
  · show (if b = s then st.tops s ++ [n] else st.tops s).length ≤ st.many
    by_cases e : b = s
    · rw [if_pos e, List.length_append, ← e]
      exact hm
    · rw [if_neg e]
      exact R.tl s
theorem RdAt.putA {H : Hp} {r : RdA} {ts : List Tab} {bs : Env} {st : RS} (R : RdAt CS CRd H r ts bs st) (l : List Str) (hl : l.length ≤ st.many) : RdAt CS CRd (upd H r.as (.dK (askK l))) r ts bs { st with asked := l } := by
  have ml : r.as ∈ r.M := List.mem_cons_of_mem _ List.mem_cons_self
  have nx : r.x ≠ r.as := fun q => by have y := R.hx; rw [q, R.as] at y; cases y
  refine ⟨by rw [upd_ne nx]; exact R.hx, by rw [cutM_put ml]; exact R.sh, by rw [cutM_put ml]; exact R.bl, by rw [cutM_put ml]; exact R.tp, upd_same, R.ll, R.nd, fun j c l2 h1 h2 => ?_, R.nb, R.few, R.m1, R.tl, hl⟩
  have z := R.lt j c l2 h1 h2
  rw [upd_ne fun q => by rw [q, R.as] at z; cases z]
  exact z
theorem RdAt.putX {H : Hp} {r : RdA} {ts : List Tab} {bs : Env} {st : RS} (R : RdAt CS CRd H r ts bs st) (hm : st.many < 1000) : RdAt CS CRd (upd H r.x (.ins CRd r.dx (rdF r.sh r.bl r.tp r.as (st.many + 1)))) r ts bs { st with many := st.many + 1 } := by
  have ml : r.x ∈ r.M := List.mem_cons_self
  refine ⟨upd_same, by rw [cutM_put ml]; exact R.sh, by rw [cutM_put ml]; exact R.bl, by rw [cutM_put ml]; exact R.tp, ?_, R.ll, R.nd, fun j c l2 h1 h2 => ?_, R.nb, R.few, hm, fun s => Nat.le_succ_of_le (R.tl s), Nat.le_succ_of_le R.al⟩
  · rw [upd_ne fun q => by have y := R.hx; rw [← q, R.as] at y; cases y]
    exact R.as
  · have z := R.lt j c l2 h1 h2
    rw [upd_ne fun q => by rw [q, R.hx] at z; cases z]
    exact z
/-- the names that a statement speaks of are there -/
def Named (bs : Env) (d : PyData) : Prop := (kindD d = "put" → ∃ b p, pt d 1 = .str b ∧ envAt bs b = some p) ∧ (overE (kindD d) = true → ∃ b p, pt d 2 = .str b ∧ envAt bs b = some p)
def spNote (CS CRd : Addr) : Sp := fun vs H Q _ => ∃ (r : RdA) (v : V) (top : Nat) (d : PyData) (ts : List Tab) (bs : Env) (st : RS), vs = [.ref r.x, v, .int (top : Nat)] ∧ RdAt CS CRd H r ts bs st ∧ Tp (cutM H r.M) v d ∧ hasPD d = true ∧ Named bs d ∧ (∀ s, (st.tops s).length < st.many) ∧ st.asked.length < st.many ∧
  ∀ H', SameM r.M H H' → RdAt CS CRd H' r ts bs (noteS st top d) → Q .non H'
abbrev s_Reader_note : Stmt := inClass (topS 37) 8
abbrev sc_Reader_noteN : List Str := ["self", "statement", "top"]
abbrev ps_Reader_note : List Str := ["self", "statement", "top"]
theorem sc_Reader_note : FnScope sc_Reader_noteN ps_Reader_note (defScope s_Reader_note) := ⟨rfl, rfl, rfl, by decide +kernel, rfl, by decide +kernel, by decide +kernel⟩
theorem ok_Reader_note {f : Addr} {fd : FuncData} (F : Fun K "note" "Reader.note" s_Reader_note f fd) (T : Txt K mg CS) (G : TxG K w mg CG CRd PD) (D_goes_over_entries : Df P w K mg base "goes_over_entries" 1 ps_goes_over_entries spOver) : FnOk P w K mg base CX0 2 f fd ps_Reader_note (spNote CS CRd) := by
  refine F.ok sc_Reader_note (fun vs H Q E h => ?_) (fun cdv A outer s H vs Q E hr h => ?_)
  · obtain ⟨_, _, _, _, _, _, _, rfl, _⟩ := h
    rfl
  · obtain ⟨r, v, top, d, ts, bs, st, rfl, R, hvc, hp, nm, tl, al, k⟩ := h
    refine ⟨_, (pss_one (ps_if (pt_cmpR op_eq (pe_ix ix_tup (pv 1) pe_int (fun _ _ => rfl)) pe_str (nomark _))
    (pss_one (ps_expr (pe_bm PySem.F.plainAttrs_list PySem.F.slot_list_append PySem.F.type_list_append mt_append (pe_dget (Nat.lt_of_le_of_lt (Nat.add_le_add_left (by decide) _) hr.units) (pe_fld (pv 0) rfl) (pe_ix ix_tup (pv 1) pe_int (fun _ _ => rfl)) (fun _ _ => rfl)) (pa_cons (pv 2) pa_nil))))
    (pss_one (ps_if (pt_val (pe_d D_goes_over_entries (hr.mono (by decide)) (pa_cons (pe_ix ix_tup (pv 1) pe_int (fun _ _ => rfl)) pa_nil)))
      (pss_one (ps_asg pe_bl (pg_sub (pe_fld (pv 0) rfl) (pe_ix ix_tup (pv 1) pe_int (fun _ _ => rfl)) (set_dict (Nat.lt_of_le_of_lt (Nat.add_le_add_left (by decide) _) hr.units)))))
      pss_nil)))), ?_⟩
    have hv := hvc.same cutM_sub
    obtain ⟨a, xs, z, ds, rfl, ha, ed, en, ek, at_, h0, ta⟩ := st_at hv hp
    unfold noteS at k
    rw [ek] at k
    unfold Named at nm
    rw [ek] at nm
    refine ⟨_, rfl, a, _, 0, _, rfl, rfl, .inl (.inl ha), atI_nat h0, rfl, _, rfl, ifd (fun ez => ?_) fun ez => ?_⟩
    · have ez : z = "put" := V.str.inj ez
      rw [if_pos ez] at k
      obtain ⟨b, p, e1, eq⟩ := nm.1 ez
      have l4 := parts_of en (m := 4) (by rw [ez]; rfl)
      obtain ⟨x1, h1, t1⟩ := at_ 1 (by omega)
      rw [e1] at t1 k
      obtain rfl : x1 = V.str b := t1.strI
      obtain ⟨l, i, hl, hb, hval, hlst⟩ := R.val eq
      have htp := cutM_sub _ _ R.tp
      obtain ⟨R2, ml⟩ := R.putL hb hl top (tl b)
      refine ⟨_, rfl, r.x, CRd, r.dx, _, _, rfl, R.hx, G.clR, G.rTo, rfl, _, rfl, a, _, 1, _, rfl, rfl, .inl (.inl ha), atI_nat h1, r.tp, _, rfl, .inl ⟨_, Sum.inr b, .inl htp, rfl, hval.symm⟩, .inl ⟨rfl, _, .inl (.inl hlst)⟩, _, rfl, l, _, _, rfl, rfl, hlst, ?_, ?_⟩
      · rw [natL_len]
        have := R.tl b
        have := R.m1
        exact Nat.lt_of_le_of_lt (show _ ≤ 1000 by omega) (by decide)
      · exact k _ (.put _ ml) R2
    · have nz : ¬ z = "put" := fun q => ez (by rw [q])
      rw [if_neg nz] at k
      refine ⟨_, rfl, a, _, 0, _, rfl, rfl, .inl (.inl ha), atI_nat h0, z, rfl, fun H1 s1 => ⟨_, rfl, ?_⟩⟩
      cases eo : overE z with
      | false =>
        rw [eo, if_neg Bool.false_ne_true] at k
        exact iteF (k _ (.of s1) (R.same s1))
      | true =>
        rw [eo, if_pos rfl] at k
        obtain ⟨b, p, e1, eq⟩ := nm.2 eo
        have l4 : 3 ≤ ds.length := by
          rcases kinds_of en with q | q | q | q | q | q | q | q
          · have := parts_of en (m := 4) (by rw [q]; rfl); omega
          · have := parts_of en (m := 5) (by rw [q]; rfl); omega
          · have := parts_of en (m := 6) (by rw [q]; rfl); omega
          · have := parts_of en (m := 4) (by rw [q]; rfl); omega
          · have := parts_of en (m := 5) (by rw [q]; rfl); omega
          · have := parts_of en (m := 5) (by rw [q]; rfl); omega
          · have := parts_of en (m := 4) (by rw [q]; rfl); omega
          · have := parts_of en (m := 4) (by rw [q]; rfl); omega
        obtain ⟨x2, h2, t2⟩ := at_ 2 (by omega)
        rw [e1] at t2 k
        obtain rfl : x2 = V.str b := t2.strI
        have R1 := R.same s1
        refine iteT ⟨_, rfl, r.x, CRd, r.dx, _, _, rfl, R1.hx, G.clR, G.rAs, rfl, _, rfl, a, _, 2, _, rfl, rfl, .inl (.inl (s1 _ _ ha)), atI_nat h2, r.as, _, rfl, .inl ⟨_, Sum.inr b, R1.as, rfl, ?_, rfl⟩, ?_⟩
        · unfold askK
          rw [List.length_map]
          have := R.m1
          exact Nat.lt_of_le_of_lt (show _ ≤ 1000 by omega) (by decide)
        · rw [show putK (askK st.asked) (Sum.inr b) (V.bl true) = _ from ask_put]
          refine k _ ((SameM.of s1).trans (.put _ (List.mem_cons_of_mem _ List.mem_cons_self))) (R1.putA _ ?_)
          split
          · exact R.al
          · rw [List.length_append]
            exact al
end
end Fm

/-! ## K08ZA -/
set_option Elab.async false
set_option maxRecDepth 100000
set_option maxHeartbeats 8000000
namespace Fm
open PySem L2
theorem strD_of {s : Str} {d : PyData} (h : isStrD s d = true) : d = .str s := by
  cases d with
  | str z => exact congrArg PyData.str (of_decide_eq_true h).symm
  | _ => cases h
theorem strD_no {s : Str} {d : PyData} (h : isStrD s d = false) : d ≠ .str s := fun e => by
  rw [e] at h
  exact absurd (of_decide_eq_false h) (fun z => z rfl)
/-- no table has this name -/
def NoName (d : PyData) (ts : List Tab) : Prop := ∀ t ∈ ts, d ≠ .str t.1
theorem foT_in {ts : List Tab} {d : PyData} (h : foT ts d ≠ []) : ∃ t ∈ ts, d = .str t.1 ∧ foT ts d = t.2 := by
  unfold foT at h ⊢
  cases e : ts.find? fun t => isStrD t.1 d with
  | none => rw [e] at h; exact absurd rfl h
  | some t =>
    refine ⟨t, List.mem_of_find?_eq_some e, strD_of ?_, rfl⟩
    have y := List.find?_some (p := fun t : Tab => isStrD t.1 d) e
    exact y
theorem inS_ne {d : PyData} {ns : List Str} (h : inS d ns = true) : ns ≠ [] := fun e => by rw [e] at h; cases h
section
variable {P : Program} {w : World} {K : PySem.W.Frag} {mg : Str → Option Value} {base : Heap} {CS CG CRd PD CN CBP : Addr}
/-- an error that holds what was given -/
def ErrVal (H : Hp) (v : V) (E : Option Addr → Hp → Prop) : Prop := ∀ (d : Addr), H d = none → E (some d) (upd H d (.xd [("value", v)]))
def spFieldsE (CS CN : Addr) : Sp := fun vs H Q E => ∃ (F : Hp) (sh : Addr) (v : V) (d : PyData) (ts : List Tab), vs = [.ref sh, v] ∧ Same F H ∧ Tp F v d ∧ ShT CS F sh (tsD ts) ∧ TsOk ts ∧ (∀ t ∈ ts, d = .str t.1 → ∀ u, Tp F u (.tuple (t.2.map PyData.str)) → Q u H) ∧ (NoName d ts → ErrVal H v (E (.ref CN)))
abbrev s_Shape_fields_of : Stmt := inClass (topS 21) 2
abbrev sc_Shape_fields_ofN : List Str := ["self", "name", "table", "fields"]
abbrev ps_Shape_fields_of : List Str := ["self", "name"]
theorem sc_Shape_fields_of : FnScope sc_Shape_fields_ofN ps_Shape_fields_of (defScope s_Shape_fields_of) := ⟨rfl, rfl, rfl, by decide +kernel, rfl, by decide +kernel, by decide +kernel⟩
theorem ok_Shape_fields_of {f : Addr} {fd : FuncData} (F : Fun K "fields_of" "Shape.fields_of" s_Shape_fields_of f fd) (T : Txt K mg CS) (X_BadName : Xf P w K mg base "BadName" CN "value") : FnOk P w K mg base (L2.CX P w) 3 f fd ps_Shape_fields_of (spFieldsE CS CN) := by
  refine F.okX sc_Shape_fields_of (fun vs H Q E h => ?_) (fun cdv A outer s H vs Q E hr h => ?_)
  · obtain ⟨_, _, _, _, _, rfl, _⟩ := h
    rfl
  · obtain ⟨F0, sh, v, d, ts, rfl, sF, hv, ⟨dx, tv, hsh, dtv⟩, ok, kQ, kE⟩ := h
    refine ⟨_, (pss_cons (ps_for PassesOwn.leaving rfl (pi_tup (pe_fld (pv 0) rfl)) (pg_tup (by rfl) (pgs_cons (pg_name (i := 2) sc_Shape_fields_of.nd rfl (Or.inl rfl)) (pgs_cons (pg_name (i := 3) sc_Shape_fields_of.nd rfl (Or.inl rfl)) pgs_nil)))
    (pss_one (ps_if (pt_cmpR (op_eqT hr.units) (pv 2) (pv 1) (nomark _))
      (pss_one (ps_ret (pv 3)))
      pss_nil)))
  (pss_one (ps_rE X_BadName (hr.mono (by decide)) (takes_of rfl rfl rfl rfl) (pv 1)))), ?_⟩
    obtain ⟨tpl, txs, rfl, htp0, hd⟩ := (show Tp F0 tv (.tuple (ts.map (tabD false))) from dtv).tuple
    have htp : SqT K H tpl txs := .inl (.inl (sF _ _ htp0))
    have lx : txs.length = ts.length := by rw [hd.len, List.length_map]
    refine ⟨_, rfl, sh, CS, dx, _, _, rfl, sF _ _ hsh, T.cl, T.nT, rfl, tpl, rfl, ⟨_, htp⟩, for_it walk_tup (fun i σ H' => ∃ v2 v3, σ = [some (.ref sh), some v, v2, v3] ∧ H = H' ∧ ∀ t ∈ ts.take i, d ≠ .str t.1)
      ⟨_, _, rfl, rfl, fun _ m => by cases m⟩ (fun i σ H' _ z => by obtain ⟨_, _, _, rfl, _⟩ := z; exact htp) ?_ ?_⟩
    · rintro i x σ H5 H6 hi ⟨v2, v3, rfl, rfl, inv⟩ ⟨rfl, hx⟩
      obtain ⟨c, hc, hxc⟩ := hd.at hx
      rw [List.getElem?_map] at hc
      obtain ⟨t, ht, rfl⟩ := Option.map_eq_some_iff.mp hc
      have mt := List.mem_of_getElem? ht
      obtain ⟨p, q, rfl, hp, hq⟩ := tab_in hxc
      refine ⟨p, _, rfl, .inl (.inl (sF _ _ hp)), rfl, _, _, rfl, _, _, rfl, rfl, ?_⟩
      refine ⟨_, rfl, _, rfl, t.1, d, rfl, hv.same sF, _, rfl, ?_⟩
      cases e : isStrD t.1 d with
      | true => exact iteT ⟨_, rfl, kQ t mt (strD_of e) _ (.tup hq (TpAll.strs t.2))⟩
      | false =>
        refine iteF ⟨_, _, rfl, rfl, fun u m => ?_⟩
        rw [List.take_add_one, ht] at m
        rcases List.mem_append.mp m with m | m
        · exact inv u m
        · have z : u = t := by simpa using m
          rw [z]
          exact strD_no e
    · rintro σ H5 ⟨v2, v3, rfl, rfl, inv⟩
      rw [lx, List.take_length] at inv
      exact ⟨_, rfl, fun d hd => kE inv d hd⟩
theorem RdAt.free {H : Hp} {r : RdA} {ts : List Tab} {bs : Env} {st : RS} (R : RdAt CS CRd H r ts bs st) {a : Addr} (h : H a = none) : a ∉ r.M := fun m => by
  rcases List.mem_cons.mp m with e | m
  · rw [e, R.hx] at h; cases h
  rcases List.mem_cons.mp m with e | m
  · rw [e, R.as] at h; cases h
  obtain ⟨i, hi⟩ := List.getElem?_of_mem m
  have il : i < bs.length := by rw [← R.ll]; exact (List.getElem?_eq_some_iff.mp hi).1
  rw [R.lt i _ a (List.getElem?_eq_getElem il) hi] at h
  cases h
theorem EnvP.snoc {H : Hp} {kv : Key × V} {p : Str × List Str × List Str} (h : EnvP H kv p) : ∀ {kvs : List (Key × V)} {e : Env}, Paired (EnvP H) kvs e → Paired (EnvP H) (kvs ++ [kv]) (e ++ [p])
  | _, _, .nil => .cons h .nil
  | _, _, .cons h1 t => .cons h1 (h.snoc t)
def spWithin (CS CRd : Addr) : Sp := fun vs H Q _ => ∃ (r : RdA) (v : V) (ar : Addr) (d : PyData) (ts : List Tab) (bs : Env) (st st' : RS) (top : Nat) (e : Env), vs = [.ref r.x, v, .ref ar] ∧ RdAt CS CRd H r ts bs st ∧ TsOk ts ∧ Tp (cutM H r.M) v d ∧ EnvAt (cutM H r.M) ar e ∧ kindD d ≠ "put" ∧ fitsD ts bs st' top e d = true ∧ e.length ≤ 1000 ∧
  ∀ a' H', Same H H' → EnvAt (cutM H' r.M) a' (withinD ts bs e d) → Q (.ref a') H'
abbrev s_Reader_within : Stmt := inClass (topS 37) 9
abbrev sc_Reader_withinN : List Str := ["self", "statement", "around", "inner"]
abbrev ps_Reader_within : List Str := ["self", "statement", "around"]
theorem sc_Reader_within : FnScope sc_Reader_withinN ps_Reader_within (defScope s_Reader_within) := ⟨rfl, rfl, rfl, by decide +kernel, rfl, by decide +kernel, by decide +kernel⟩
theorem ok_Reader_within {f : Addr} {fd : FuncData} (F : Fun K "within" "Reader.within" s_Reader_within f fd) (T : Txt K mg CS) (G : TxG K w mg CG CRd PD) (D_goes_over_entries : Df P w K mg base "goes_over_entries" 1 ps_goes_over_entries spOver) (D_fields_of : DmX P w K mg base CS "fields_of" 3 ps_Shape_fields_of (spFieldsE CS CN)) : FnOk P w K mg base CX0 4 f fd ps_Reader_within (spWithin CS CRd) := by
  refine F.ok sc_Reader_within (fun vs H Q E h => ?_) (fun cdv A outer s H vs Q E hr h => ?_)
  · obtain ⟨_, _, _, _, _, _, _, _, _, _, rfl, _⟩ := h
    rfl
  · obtain ⟨r, v, ar, d, ts, bs, st, st', top, e, rfl, R, tok, hvc, hec, np, fit, le, k⟩ := h
    refine ⟨_, (pss_cons (ps_if (pt_cmpR op_eq (pe_ix ix_tup (pv 1) pe_int (fun _ _ => rfl)) pe_str (nomark _))
    (pss_one (ps_ret (pv 2)))
    pss_nil)
  (pss_cons (ps_set (i := 3) sc_Reader_within.nd rfl (Or.inl rfl) (pe_callTy call_dictD (by rfl) T.n_dict (by decide +kernel) (pa_cons (pv 2) pa_nil)))
  (Evl.pss_cut (ps_if (pt_val (pe_d D_goes_over_entries (hr.mono (by decide)) (pa_cons (pe_ix ix_tup (pv 1) pe_int (fun _ _ => rfl)) pa_nil)))
    (pss_one (ps_asg (pe_dget (Nat.lt_of_le_of_lt (Nat.add_le_add_left (by decide) _) hr.units) (pe_fld (pv 0) rfl) (pe_ix ix_tup (pv 1) pe_int (fun _ _ => rfl)) (fun _ _ => rfl)) (pg_sub (pv 3) (pe_ix ix_tup (pv 1) pe_int (fun _ _ => rfl)) (set_dict (Nat.lt_of_le_of_lt (Nat.add_le_add_left (by decide) _) hr.units)))))
    (pss_one (ps_asg (pe_tup (pa_cons (pe_dmE (W := fun _ _ _ _ => False) (pe_fld (pv 0) rfl) T.cl D_fields_of (hr.mono (by decide)) takes0 (pa_cons (pe_ix ix_tup (pv 1) pe_int (fun _ _ => rfl)) pa_nil)) (pa_cons (pe_tup pa_nil) pa_nil))) (pg_sub (pv 3) (pe_ix ix_tup (pv 1) pe_int (fun _ _ => rfl)) (set_dict (Nat.lt_of_le_of_lt (Nat.add_le_add_left (by decide) _) hr.units))))))
  (pss_one (ps_ret (pv 3)))))), ?_⟩
    have hv := hvc.same cutM_sub
    unfold fitsD at fit
    rw [Bool.and_eq_true] at fit
    obtain ⟨hp, fit⟩ := fit
    obtain ⟨a, xs, z, ds, rfl, ha, ed, en, ek, at_, h0, ta⟩ := st_at hv hp
    rw [ek] at np fit
    rw [if_neg np, Bool.and_eq_true] at fit
    replace fit := fit.2
    unfold withinD at k
    rw [ek] at k
    refine ⟨_, rfl, a, _, 0, _, rfl, rfl, .inl (.inl ha), atI_nat h0, rfl, _, rfl, ifd (fun ez => ?_) fun ez => ?_⟩
    · rw [if_pos (V.str.inj ez)] at k
      exact ⟨_, rfl, k ar _ (Same.refl _) hec⟩
    · have nz : ¬ z = "same" := fun q => ez (by rw [q])
      rw [if_neg nz] at k
      rw [if_neg nz, Bool.and_eq_true] at fit
      obtain ⟨fr, fit⟩ := fit
      obtain ⟨b, eb, nv⟩ : ∃ b, pt d 1 = .str b ∧ envAt e b = none := by
        cases q : pt d 1 with
        | str b =>
          rw [q] at fr
          have fr : (isNm b && !(envAt e b).isSome) = true := fr
          rw [Bool.and_eq_true] at fr
          refine ⟨b, rfl, ?_⟩
          cases y : envAt e b with
          | none => rfl
          | some _ => rw [y] at fr; cases fr.2
        | _ => rw [q] at fr; cases fr
      rw [eb] at k
      have l3 : 3 ≤ ds.length := by
        rcases kinds_of en with q | q | q | q | q | q | q | q
        · have := parts_of en (m := 4) (by rw [q]; rfl); omega
        · have := parts_of en (m := 5) (by rw [q]; rfl); omega
        · have := parts_of en (m := 6) (by rw [q]; rfl); omega
        · have := parts_of en (m := 4) (by rw [q]; rfl); omega
        · have := parts_of en (m := 5) (by rw [q]; rfl); omega
        · have := parts_of en (m := 5) (by rw [q]; rfl); omega
        · have := parts_of en (m := 4) (by rw [q]; rfl); omega
        · have := parts_of en (m := 4) (by rw [q]; rfl); omega
      obtain ⟨x1, h1, t1⟩ := at_ 1 (by omega)
      obtain ⟨x2, h2, t2⟩ := at_ 2 (by omega)
      rw [eb] at t1
      obtain rfl : x1 = V.str b := t1.strI
      obtain ⟨kvs, hk, pe⟩ := hec
      have hk0 := cutM_sub _ _ hk
      have lk := env_len pe
      have fresh : valV kvs (Sum.inr b : Key) = none := by
        rcases env_val b pe with ⟨_, q2⟩ | ⟨_, _, q1, _⟩
        · exact q2
        · rw [nv] at q1; cases q1
      refine ⟨_, rfl, ar, _, rfl, .inl hk0, fun D hD => ?_⟩
      have nM := R.free hD
      have s1 : Same H (upd H D (.dK kvs)) := same_new _ hD
      have D1 : (upd H D (.dK kvs)) D = some (.dK kvs) := upd_same
      generalize upd H D (.dK kvs) = H1 at *
      have R1 := R.same s1
      refine ⟨fun σ' H' => σ' = [some (.ref r.x), some (.ref a), some (.ref ar), some (.ref D)] ∧ Same H H' ∧ EnvAt (cutM H' r.M) D (e ++ [(b, if overE z = true then (envAt bs (nameD (pt d 2))).getD ([], []) else (foT ts (pt d 2), []))]), ?_, ?_⟩
      · refine ⟨_, rfl, a, _, 0, _, rfl, rfl, .inl (.inl (s1 _ _ ha)), atI_nat h0, z, rfl, fun H2 s2 => ⟨_, rfl, ?_⟩⟩
        have s12 := s1.trans s2
        have R2 := R1.same s2
        have D2 := s2 _ _ D1
        have bnd : kvs.length < sizeLine := Nat.lt_of_le_of_lt (show _ ≤ 1000 by omega) (by decide)
        -- what is put
        have fin : ∀ (u : V) (p : List Str × List Str) (H3 : Hp), Same H2 H3 → FsAt (cutM H3 r.M) u p → Same H (upd H3 D (.dK (putK kvs (Sum.inr b) u))) ∧ EnvAt (cutM (upd H3 D (.dK (putK kvs (Sum.inr b) u))) r.M) D (e ++ [(b, p)]) := fun u p H3 s3 fs => by
          have sH3 : Same H H3 := s12.trans s3
          refine ⟨same_put sH3 _ hD, kvs ++ [(Sum.inr b, u)], ?_, ?_⟩
          · rw [cutM_in nM, upd_same, putK_new _ fresh]
          · have sc : Same (cutM H r.M) (cutM (upd H3 D (.dK (putK kvs (Sum.inr b) u))) r.M) := cutM_mono (same_put sH3 _ hD)
            refine EnvP.snoc (kv := (Sum.inr b, u)) (p := (b, p)) ⟨rfl, ?_⟩ (envP_same sc pe)
            obtain ⟨ga, fa, sa, q0, q1, q2, q3⟩ := fs
            have D3 := s3 _ _ D2
            have up : ∀ {c : Addr} {xs : List V}, (cutM H3 r.M) c = some (.tup xs) → (cutM (upd H3 D (.dK (putK kvs (Sum.inr b) u))) r.M) c = some (.tup xs) := fun {c xs} q => by
              have nc : c ∉ r.M := fun m => by rw [cutM_at m] at q; cases q
              rw [cutM_in nc] at q ⊢
              rw [upd_ne fun y => by rw [y, D3] at q; cases q]
              exact q
            exact ⟨ga, fa, sa, q0, up q1, up q2, up q3⟩
        cases eo : overE z with
        | true =>
          rw [eo, if_pos rfl] at fit
          obtain ⟨c, p, e2, eq⟩ : ∃ c p, pt d 2 = .str c ∧ envAt bs c = some p := by
            unfold entFit at fit
            cases q : pt d 2 with
            | str c =>
              cases y : envAt bs c with
              | some p => exact ⟨c, p, rfl, y⟩
              | none => simp only [q, y] at fit; cases fit
            | _ => simp only [q] at fit; cases fit
          rw [e2] at t2
          obtain rfl : x2 = V.str c := t2.strI
          obtain ⟨kb, hkb, pb⟩ := R2.bl
          rcases env_val c pb with ⟨q1, _⟩ | ⟨ff, xx, q1, q2, fs⟩
          · rw [eq] at q1; cases q1
          rw [eq] at q1
          cases q1
          have ep : (if true = true then (envAt bs (nameD (pt d 2))).getD ([], []) else (foT ts (pt d 2), [])) = p := by
            rw [if_pos rfl, e2]
            show (envAt bs c).getD _ = _
            rw [eq]
            rfl
          rw [ep]
          obtain ⟨f1, f2⟩ := fin xx p H2 (Same.refl _) fs
          refine iteT ⟨_, rfl, r.x, CRd, r.dx, _, _, rfl, R2.hx, G.clR, G.rBl, rfl, _, rfl, a, _, 2, _, rfl, rfl, .inl (.inl (s12 _ _ ha)), atI_nat h2, r.bl, _, rfl, .inl ⟨_, Sum.inr c, .inl (cutM_sub _ _ hkb), rfl, q2.symm⟩, _, rfl, _, rfl, a, _, 1, _, rfl, rfl, .inl (.inl (s12 _ _ ha)), atI_nat h1, D, _, rfl, .inl ⟨_, Sum.inr b, D2, rfl, bnd, rfl⟩, ?_⟩
          exact ⟨rfl, f1, f2⟩
        | false =>
          rw [eo, if_neg Bool.false_ne_true] at fit
          have nef : foT ts (pt d 2) ≠ [] := by
            unfold rowsFit at fit
            rw [ek] at fit
            by_cases q : z = "scan"
            · rw [if_pos q] at fit
              intro y
              rw [y] at fit
              cases fit
            · rw [if_neg q, Bool.and_eq_true] at fit
              exact inS_ne fit.1
          obtain ⟨t, mt, e2, et⟩ := foT_in nef
          rw [if_neg Bool.false_ne_true]
          obtain ⟨dsh, tv, hsh, dtv⟩ := id R2.sh
          refine iteF ⟨_, rfl, r.x, CRd, r.dx, _, _, rfl, R2.hx, G.clR, G.rSh, rfl, r.sh, dsh, _, rfl, cutM_sub _ _ hsh, rfl, _, rfl, a, _, 2, _, rfl, rfl, .inl (.inl (s12 _ _ ha)), atI_nat h2, cutM H2 r.M, r.sh, x2, pt d 2, ts, rfl, cutM_sub, ?_, R2.sh, tok, fun t2 mt2 et2 u hu => ?_, fun no => absurd e2 (no t mt)⟩
          · obtain ⟨a', xs', z', ds', q0, q1, ed2, _, _, at', _, _⟩ := st_at (hvc.same (cutM_mono s12)) hp
            cases ed.symm.trans ed2
            cases q0
            have e9 : xs' = xs := by
              have y := cutM_sub _ _ q1
              rw [s12 _ _ ha] at y
              exact (HO.tup.inj (Option.some.inj y)).symm
            subst e9
            obtain ⟨x2', g1, g2⟩ := at' 2 (by omega)
            rw [h2] at g1
            cases g1
            exact g2
          · have tt : t2 = t := by
              have y1 := find_self (p := t) tok.nd mt
              have y2 := find_self (p := t2) tok.nd mt2
              have e3 : t2.1 = t.1 := by rw [e2] at et2; exact (PyData.str.inj et2).symm
              rw [e3, y1] at y2
              exact (Option.some.inj y2).symm
            subst tt
            obtain ⟨q, ys, rfl, hq, ty⟩ := hu.tuple
            have ey := strs_inv ty
            subst ey
            refine ⟨(by show 0 ≤ sizeLine; decide), fun ep hep => ⟨(by show 2 ≤ sizeLine; decide), fun tp htp => ?_⟩⟩
            have s23 : Same H2 (upd H2 ep (.tup [])) := same_new _ hep
            have ep3 : (upd H2 ep (.tup [])) ep = some (.tup []) := upd_same
            have nep := R2.free hep
            generalize upd H2 ep (.tup []) = H3 at *
            have s34 : Same H3 (upd H3 tp (.tup [.ref q, .ref ep])) := same_new _ htp
            have tp4 : (upd H3 tp (.tup [.ref q, .ref ep])) tp = some (.tup [.ref q, .ref ep]) := upd_same
            have ntp := (R2.same s23).free htp
            generalize upd H3 tp (.tup [.ref q, .ref ep]) = H4 at *
            have s24 := s23.trans s34
            obtain ⟨f1, f2⟩ := fin (.ref tp) (foT ts (pt d 2), []) H4 s24 ⟨tp, q, ep, rfl, by rw [cutM_in ntp]; exact tp4, by rw [et]; exact cutM_mono s24 _ _ hq, by rw [cutM_in nep]; exact s34 _ _ ep3⟩
            have ha4 := s24 _ _ (s12 _ _ ha)
            exact ⟨_, rfl, _, rfl, a, _, 1, _, rfl, rfl, .inl (.inl ha4), atI_nat h1, D, _, rfl, .inl ⟨_, Sum.inr b, s24 _ _ D2, rfl, bnd, rfl⟩, rfl, f1, f2⟩
      · rintro σ' H2 ⟨rfl, s2, e2⟩
        exact ⟨_, rfl, k D _ s2 e2⟩
end
end Fm

/-! ## K08ZB -/
set_option Elab.async false
set_option maxRecDepth 100000
set_option maxHeartbeats 8000000
namespace Fm
open PySem L2
theorem fn_noX {P : Program} {w : World} {K : PySem.W.Frag} {mg : Str → Option Value} {base : Heap} {k : Nat} {f : Addr} {fd : FuncData} {ps : List Str} {sp : Sp} (h : ∀ vs H Q E, sp vs H Q E → False) : FnOk P w K mg base (L2.CX P w) k f fd ps sp :=
  ⟨fun vs H Q E z => (h vs H Q E z).elim, fun _ _ _ H _ _ vs Q E _ _ _ _ z => (h vs H Q E z).elim⟩
theorem pt_lt {d : PyData} {i : Nat} (e : isRowD d = true) (h : i < (partsD d).length) : mst (pt d i) ≤ mst d ∧ siz (pt d i) ≤ siz d := by
  have m := pt_mem e h
  have z1 := mst_mem m
  have z2 := siz_mem m
  rw [mst_row e, siz_row e]
  omega
/-- a body is read, statement by statement -/
def readL (f : List Nat → RS → PyData → Except (List Nat) RS) (path : List Nat) : Nat → RS → List PyData → Except (List Nat) RS
  | _, st, [] => .ok st
  | i, st, d :: ds => match f (path ++ [i]) st d with
    | .error p => .error p
    | .ok st' => readL f path (i + 1) st' ds
def moreS (st : RS) : RS := { st with many := st.many + 1 }
def readS (ts : List Tab) (bs : Env) : Nat → Env → List Nat → RS → PyData → Except (List Nat) RS
  | 0, _, path, _, _ => .error path
  | n + 1, e, path, st, d => if 40 < st.many + 1 ∨ fitsD ts bs (moreS st) (path.headD 0) e d = false then .error path else
      if kindD d = "put" then .ok (noteS (moreS st) (path.headD 0) d) else readL (readS ts bs n (withinD ts bs e d)) path 0 (noteS (moreS st) (path.headD 0) d) (partsD ((partsD d).getLastD .none))
section
variable {P : Program} {w : World} {K : PySem.W.Frag} {mg : Str → Option Value} {base : Heap} {CS CG CRd PD CN CBP : Addr}
def OutR (CS CRd CBP : Addr) (H : Hp) (r : RdA) (ts : List Tab) (bs : Env) (res : Except (List Nat) RS) (Q : VK) (E : XK) : Prop :=
  (∀ st', res = .ok st' → ∀ H', SameM r.M H H' → RdAt CS CRd H' r ts bs st' → st'.many ≤ 40 → Q .non H') ∧
  ∀ p, res = .error p → ∀ (dd pp : Addr) (H' : Hp), SameM r.M H H' → H dd = none → (cutM H' r.M) pp = some (.tup (natL p)) → H' dd = some (.xd [("value", .ref pp)]) → E (.ref CBP) (some dd) H'
def spReadS (CS CRd CBP : Addr) (n : Nat) : Sp := fun vs H Q E => ∃ (r : RdA) (v : V) (pa ar : Addr) (d : PyData) (ts : List Tab) (bs e : Env) (st : RS) (path : List Nat), vs = [.ref r.x, v, .ref pa, .ref ar] ∧ RdAt CS CRd H r ts bs st ∧ TsOk ts ∧ Tp (cutM H r.M) v d ∧ EnvAt (cutM H r.M) ar e ∧ (cutM H r.M) pa = some (.tup (natL path)) ∧
  path.length + n = 9 ∧ path ≠ [] ∧ e.length < path.length ∧ (e.map (·.1)).Nodup ∧ st.many ≤ 40 ∧ mst d ≤ 100000 ∧ siz d ≤ 90000 ∧ OutR CS CRd CBP H r ts bs (readS ts bs n e path st d) Q E
def spReadB (CS CRd CBP : Addr) (n : Nat) : Sp := fun vs H Q E => ∃ (r : RdA) (v : V) (pa ar : Addr) (d : PyData) (ts : List Tab) (bs e : Env) (st : RS) (path : List Nat), vs = [.ref r.x, v, .ref pa, .ref ar] ∧ RdAt CS CRd H r ts bs st ∧ TsOk ts ∧ Tp (cutM H r.M) v d ∧ EnvAt (cutM H r.M) ar e ∧ (cutM H r.M) pa = some (.tup (natL path)) ∧
  path.length + 1 + n = 9 ∧ e.length ≤ path.length ∧ (e.map (·.1)).Nodup ∧ st.many ≤ 40 ∧ isRowD d = true ∧ mst d ≤ 100000 ∧ siz d ≤ 90000 ∧ OutR CS CRd CBP H r ts bs (readL (readS ts bs n e) path 0 st (partsD d)) Q E
abbrev s_Reader_read_statement : Stmt := inClass (topS 37) 2
abbrev sc_Reader_read_statementN : List Str := ["self", "statement", "path", "around"]
abbrev ps_Reader_read_statement : List Str := ["self", "statement", "path", "around"]
theorem sc_Reader_read_statement : FnScope sc_Reader_read_statementN ps_Reader_read_statement (defScope s_Reader_read_statement) := ⟨rfl, rfl, rfl, by decide +kernel, rfl, by decide +kernel, by decide +kernel⟩
abbrev s_Reader_read_body : Stmt := inClass (topS 37) 1
abbrev sc_Reader_read_bodyN : List Str := ["self", "body", "path", "around", "at", "statement"]
abbrev ps_Reader_read_body : List Str := ["self", "body", "path", "around"]
theorem sc_Reader_read_body : FnScope sc_Reader_read_bodyN ps_Reader_read_body (defScope s_Reader_read_body) := ⟨rfl, rfl, rfl, by decide +kernel, rfl, by decide +kernel, by decide +kernel⟩
theorem go_body {f : Addr} {fd : FuncData} (F : Fun K "read_body" "Reader.read_body" s_Reader_read_body f fd) (T : Txt K mg CS) (G : TxG K w mg CG CRd PD) (n : Nat) (D_read_statement : DmX P w K mg base CRd "read_statement" (8 + 2 * n) ps_Reader_read_statement (spReadS CS CRd CBP n)) : FnOk P w K mg base (L2.CX P w) ((8 + 2 * n) + 1) f fd ps_Reader_read_body (spReadB CS CRd CBP n) := by
  refine F.okX sc_Reader_read_body (fun vs H Q E h => ?_) (fun cdv A outer s H vs Q E hr h => ?_)
  · obtain ⟨_, _, _, _, _, _, _, _, _, _, rfl, _⟩ := h
    rfl
  · obtain ⟨r, v, pa, ar, d, ts, bs, e, st, path, rfl, R, tok, hv, he, hpa, ln, le, nde, m40, er, hm, hz, kQ, kE⟩ := h
    refine ⟨_, (pss_one (ps_for PassesOwn.leaving rfl (pi_enumA (by rfl) T.n_enumerate (pa_cons (pv 1) pa_nil)) (pg_tup (by rfl) (pgs_cons (pg_name (i := 4) sc_Reader_read_body.nd rfl (Or.inl rfl)) (pgs_cons (pg_name (i := 5) sc_Reader_read_body.nd rfl (Or.inl rfl)) pgs_nil)))
    (pss_one (ps_expr (pe_dmE (pv 0) G.clR D_read_statement hr (takes_of rfl rfl rfl rfl) (pa_cons (pv 5) (pa_cons (pe_tup (StX.pa_star (pv 2) (pa_cons (pv 4) pa_nil))) (pa_cons (pv 3) pa_nil)))))))), ?_⟩
    obtain ⟨a, xs, rfl, hx, ha⟩ := hv.row er
    have ls := siz_len (partsD d)
    rw [siz_row er] at hz
    rw [mst_row er] at hm
    have sub0 : Same (cutM H r.M) H := cutM_sub
    refine ⟨_, rfl, a, xs, rfl, enum_of (K := K) (rw_sq hx) sub0 fun J GG gm wk => ?_⟩
    refine for_it wk (fun i σ H' => ∃ (v4 v5 : Option V) (sti : RS), σ = [some (.ref r.x), some (.ref a), some (.ref pa), some (.ref ar), v4, v5] ∧ SameM r.M H H' ∧ RdAt CS CRd H' r ts bs sti ∧ sti.many ≤ 40 ∧ readL (readS ts bs n e) path 0 st (partsD d) = readL (readS ts bs n e) path i sti ((partsD d).drop i))
      ⟨_, _, st, rfl, .of (Same.refl _), R, m40, rfl⟩ (fun i σ H' _ z => by obtain ⟨_, _, _, _, z, _⟩ := z; exact gm H' (z.cut.trans cutM_sub)) ?_ ?_
    · rintro i x σ H2 H3 hi ⟨v4, v5, sti, rfl, s2, R2, mi, inv⟩ ⟨T0, x1, y, rfl, hT, rfl, e1, hy⟩
      obtain rfl : V.int (i : Nat) = x1 := Option.some.inj e1
      obtain ⟨c, hc, hcv⟩ := ha.at hy
      have mc := List.mem_of_getElem? hc
      have yz := siz_mem mc
      have ym := mst_mem mc
      have dr : (partsD d).drop i = c :: (partsD d).drop (i + 1) := by
        obtain ⟨hl, q⟩ := List.getElem?_eq_some_iff.mp hc
        rw [← q]
        exact List.drop_eq_getElem_cons hl
      rw [dr] at inv
      have s23 : Same H2 (upd H2 T0 (.tup [V.int (i : Nat), y])) := same_new _ hT
      have hT' : (upd H2 T0 (.tup [V.int (i : Nat), y])) T0 = some (.tup [V.int (i : Nat), y]) := upd_same
      generalize upd H2 T0 (.tup [V.int (i : Nat), y]) = H4 at *
      have R4 := R2.same s23
      have s4 : SameM r.M H H4 := s2.trans (.of s23)
      have pa4 := cutM_sub _ _ (s4.cut _ _ hpa)
      have lp8 : path.length ≤ 8 := by omega
      refine ⟨T0, _, rfl, .inl (.inl hT'), rfl, _, _, rfl, _, _, rfl, rfl, ?_⟩
      refine ⟨_, rfl, r.x, r.dx, _, rfl, R4.hx, rfl, _, rfl, _, rfl, pa, _, rfl, .inl (.inl (.inl pa4)), _, rfl, ?_, fun tp htp => ?_⟩
      · rw [List.length_append, natL_len]
        exact Nat.le_trans (show _ ≤ 100 by show path.length + 1 ≤ 100; omega) (by decide)
      have s45 : Same H4 (upd H4 tp (.tup (natL path ++ [V.int (i : Nat)]))) := same_new _ htp
      have tp5 : (upd H4 tp (.tup (natL path ++ [V.int (i : Nat)]))) tp = some (.tup (natL (path ++ [i]))) := by
        rw [upd_same]
        unfold natL
        rw [List.map_append]
        rfl
      have ntp := R4.free htp
      generalize upd H4 tp (.tup (natL path ++ [V.int (i : Nat)])) = H5 at *
      have s5 : SameM r.M H H5 := s4.trans (.of s45)
      refine ⟨_, rfl, r, y, tp, ar, c, ts, bs, e, sti, path ++ [i], rfl, R4.same s45, tok, hcv.same s5.cut, he.same s5.cut, by rw [cutM_in ntp]; exact tp5, by rw [List.length_append]; show path.length + 1 + n = 9; exact ln, by simp, by rw [List.length_append]; show _ < path.length + 1; omega, nde, mi, by omega, by omega, fun st' e2 H6 s6 R6 m6 => ?_, fun p e2 dd pp H6 s6 hd hp6 hd6 => ?_⟩
      · refine ⟨_, _, st', rfl, s5.trans s6, R6, m6, ?_⟩
        rw [inv]
        show (match readS ts bs n e (path ++ [i]) sti c with | .error p => Except.error p | .ok st' => _) = _
        rw [e2]
      · refine kE p ?_ dd pp H6 (s5.trans s6) ?_ hp6 hd6
        · rw [inv]
          show (match readS ts bs n e (path ++ [i]) sti c with | .error p => Except.error p | .ok st' => _) = _
          rw [e2]
        · cases q : H dd with
          | none => rfl
          | some o => rw [s5 _ _ ((R4.same s45).free hd) q] at hd; cases hd
    · rintro σ H2 ⟨v4, v5, sti, rfl, s2, R2, mi, inv⟩
      rw [ha.len, List.drop_length] at inv
      exact kQ sti inv H2 s2 R2 mi
theorem go_stmt0 {f : Addr} {fd : FuncData} (F : Fun K "read_statement" "Reader.read_statement" s_Reader_read_statement f fd) (T : Txt K mg CS) (G : TxG K w mg CG CRd PD) (X_BadProgram : Xf P w K mg base "BadProgram" CBP "value") (D_fits : Dm P w K mg base CRd "fits" 6 ps_Reader_fits (spFits CS CRd)) (D_note : Dm P w K mg base CRd "note" 2 ps_Reader_note (spNote CS CRd)) (D_within : Dm P w K mg base CRd "within" 4 ps_Reader_within (spWithin CS CRd))
    (D_read_body : DmX P w K mg base CRd "read_body" 7 ps_Reader_read_body (fun _ _ _ _ => False)) : FnOk P w K mg base (L2.CX P w) (8 + 2 * 0) f fd ps_Reader_read_statement (spReadS CS CRd CBP 0) := by
  refine F.okX sc_Reader_read_statement (fun vs H Q E h => ?_) (fun cdv A outer s H vs Q E hr h => ?_)
  · obtain ⟨_, _, _, _, _, _, _, _, _, _, rfl, _⟩ := h
    rfl
  · obtain ⟨r, v, pa, ar, d, ts, bs, e, st, path, rfl, R, tok, hv, he, hpa, ln, np, le, nde, m40, hm, hz, kQ, kE⟩ := h
    obtain ⟨Tx, hno⟩ := X_BadProgram.oex
    refine ⟨_, (pss_cons (ps_fldaug (pv 0) pe_int in_add)
  (pss_cons (ps_if (PW.pt (pw_or (pt_cmpR op_gt (pe_fld (pv 0) rfl) (pe_gI T.g_MOST_STATEMENTS) (nomark _)) (pw_or (pt_cmpR op_gt (pe_callB call_len_seq (by rfl) T.n_len (by decide +kernel) (pa_cons (pv 2) pa_nil)) (pe_gI T.g_DEEPEST) (nomark _)) (pw_or1 (pt_not (pt_val (pe_dm (pv 0) G.clR D_fits (hr.mono (by first | decide | exact Nat.le_trans (show _ ≤ 8 by decide) (Nat.le_add_right 8 _))) (pa_cons (pv 1) (pa_cons (pe_ix ix_tup (pv 2) pe_int (fun _ _ => rfl)) (pa_cons (pv 3) pa_nil))))))))))
    (pss_one (ps_rE X_BadProgram (hr.mono (by first | decide | exact Nat.le_trans (show _ ≤ 8 by decide) (Nat.le_add_right 8 _))) (takes_of rfl rfl rfl rfl) (pv 2)))
    pss_nil)
  (pss_cons (ps_expr (pe_dm (pv 0) G.clR D_note (hr.mono (by first | decide | exact Nat.le_trans (show _ ≤ 8 by decide) (Nat.le_add_right 8 _))) (pa_cons (pv 1) (pa_cons (pe_ix ix_tup (pv 2) pe_int (fun _ _ => rfl)) pa_nil))))
  (pss_one (ps_if (pt_cmpR op_ne (pe_ix ix_tup (pv 1) pe_int (fun _ _ => rfl)) pe_str (nomark _))
    (pss_one (ps_expr (pe_dmE (pv 0) G.clR D_read_body hr (takes_of rfl rfl rfl rfl) (pa_cons (pe_ix ix_tup (pv 1) (pe_un un_neg pe_int) (fun _ _ => rfl)) (pa_cons (pv 2) (pa_cons (pe_dm (pv 0) G.clR D_within (hr.mono (by first | decide | exact Nat.le_trans (show _ ≤ 8 by decide) (Nat.le_add_right 8 _))) (pa_cons (pv 1) (pa_cons (pv 3) pa_nil))) pa_nil))))))
    pss_nil))))), ?_⟩
    have hpa0 := cutM_sub _ _ hpa
    obtain ⟨p0, ps, rfl⟩ : ∃ p0 ps, path = p0 :: ps := by
      cases path with
      | nil => exact absurd rfl np
      | cons p0 ps => exact ⟨p0, ps, rfl⟩
    have R1 := R.putX (by omega)
    have s1 : SameM r.M H (upd H r.x (.ins CRd r.dx (rdF r.sh r.bl r.tp r.as (st.many + 1)))) := .put _ List.mem_cons_self
    have nxp : pa ≠ r.x := fun q => by rw [q, R.hx] at hpa0; cases hpa0
    refine ⟨_, rfl, r.x, CRd, r.dx, _, _, rfl, R.hx, G.clR, G.rMa, rfl, _, _, rfl, rfl, r.dx, _, R.hx, (by show 5 < 1000; decide), ?_⟩
    have eX : (upd H r.x (.ins CRd r.dx (rdF r.sh r.bl r.tp r.as (st.many + 1)))) r.x = some (.ins CRd r.dx (rdF r.sh r.bl r.tp r.as (st.many + 1))) := upd_same
    have pa1 : (upd H r.x (.ins CRd r.dx (rdF r.sh r.bl r.tp r.as (st.many + 1)))) pa = some (.tup (natL (p0 :: ps))) := by rw [upd_ne nxp]; exact hpa0
    show L2.Ends.nx _ _ (upd H r.x (.ins CRd r.dx (rdF r.sh r.bl r.tp r.as (st.many + 1))))
    generalize upd H r.x (.ins CRd r.dx (rdF r.sh r.bl r.tp r.as (st.many + 1))) = H1 at *
    have fail : ∀ {H2 : Hp}, SameM r.M H H2 → readS ts bs 0 e (p0 :: ps) st d = .error (p0 :: ps) → ∀ dd, H2 dd = none → RdAt CS CRd H2 r ts bs (moreS st) → E (.ref CBP) (some dd) (upd H2 dd (.xd [("value", .ref pa)])) := fun {H2} s2 er dd hd R2 => by
      have ndd := R2.free hd
      refine kE _ er dd pa _ (s2.trans (.of (same_new _ hd))) ?_ (((s2.cut.trans (cutM_mono (same_new _ hd)))) _ _ hpa) upd_same
      cases q : H dd with
      | none => rfl
      | some o => rw [s2 _ _ ndd q] at hd; cases hd
    have hpath : (p0 :: ps).length = 9 := by omega
    have er0 : readS ts bs 0 e (p0 :: ps) st d = .error (p0 :: ps) := rfl
    refine ⟨_, rfl, r.x, CRd, r.dx, _, _, rfl, R1.hx, G.clR, G.rMa, rfl, _, _, rfl, rfl, _, rfl, ifd (fun h1 => ?_) fun h1 => ?_⟩
    · exact ⟨_, rfl, fun dd hd => fail s1 er0 dd hd R1⟩
    · refine ⟨_, rfl, pa, _, rfl, .inr (.inl (.inl pa1)), _, _, rfl, rfl, _, rfl, ifd (fun h2 => ?_) fun h2 => ?_⟩
      · exact ⟨_, rfl, fun dd hd => fail s1 er0 dd hd R1⟩
      · rw [natL_len, hpath] at h2
        exact absurd (show (8 : Int) < ((9 : Nat) : Int) by decide) h2
theorem go_stmt {f : Addr} {fd : FuncData} (F : Fun K "read_statement" "Reader.read_statement" s_Reader_read_statement f fd) (T : Txt K mg CS) (G : TxG K w mg CG CRd PD) (X_BadProgram : Xf P w K mg base "BadProgram" CBP "value") (D_fits : Dm P w K mg base CRd "fits" 6 ps_Reader_fits (spFits CS CRd)) (D_note : Dm P w K mg base CRd "note" 2 ps_Reader_note (spNote CS CRd)) (D_within : Dm P w K mg base CRd "within" 4 ps_Reader_within (spWithin CS CRd))
    (n : Nat) (D_read_body : DmX P w K mg base CRd "read_body" ((8 + 2 * n) + 1) ps_Reader_read_body (spReadB CS CRd CBP n)) : FnOk P w K mg base (L2.CX P w) (8 + 2 * (n + 1)) f fd ps_Reader_read_statement (spReadS CS CRd CBP (n + 1)) := by
  refine F.okX sc_Reader_read_statement (fun vs H Q E h => ?_) (fun cdv A outer s H vs Q E hr h => ?_)
  · obtain ⟨_, _, _, _, _, _, _, _, _, _, rfl, _⟩ := h
    rfl
  · obtain ⟨r, v, pa, ar, d, ts, bs, e, st, path, rfl, R, tok, hv, he, hpa, ln, np, le, nde, m40, hm, hz, kQ, kE⟩ := h
    obtain ⟨Tx, hno⟩ := X_BadProgram.oex
    refine ⟨_, (pss_cons (ps_fldaug (pv 0) pe_int in_add)
  (pss_cons (ps_if (PW.pt (pw_or (pt_cmpR op_gt (pe_fld (pv 0) rfl) (pe_gI T.g_MOST_STATEMENTS) (nomark _)) (pw_or (pt_cmpR op_gt (pe_callB call_len_seq (by rfl) T.n_len (by decide +kernel) (pa_cons (pv 2) pa_nil)) (pe_gI T.g_DEEPEST) (nomark _)) (pw_or1 (pt_not (pt_val (pe_dm (pv 0) G.clR D_fits (hr.mono (by first | decide | exact Nat.le_trans (show _ ≤ 8 by decide) (Nat.le_add_right 8 _))) (pa_cons (pv 1) (pa_cons (pe_ix ix_tup (pv 2) pe_int (fun _ _ => rfl)) (pa_cons (pv 3) pa_nil))))))))))
    (pss_one (ps_rE X_BadProgram (hr.mono (by first | decide | exact Nat.le_trans (show _ ≤ 8 by decide) (Nat.le_add_right 8 _))) (takes_of rfl rfl rfl rfl) (pv 2)))
    pss_nil)
  (pss_cons (ps_expr (pe_dm (pv 0) G.clR D_note (hr.mono (by first | decide | exact Nat.le_trans (show _ ≤ 8 by decide) (Nat.le_add_right 8 _))) (pa_cons (pv 1) (pa_cons (pe_ix ix_tup (pv 2) pe_int (fun _ _ => rfl)) pa_nil))))
  (pss_one (ps_if (pt_cmpR op_ne (pe_ix ix_tup (pv 1) pe_int (fun _ _ => rfl)) pe_str (nomark _))
    (pss_one (ps_expr (pe_dmE (pv 0) G.clR D_read_body hr (takes_of rfl rfl rfl rfl) (pa_cons (pe_ix ix_tup (pv 1) (pe_un un_neg pe_int) (fun _ _ => rfl)) (pa_cons (pv 2) (pa_cons (pe_dm (pv 0) G.clR D_within (hr.mono (by first | decide | exact Nat.le_trans (show _ ≤ 8 by decide) (Nat.le_add_right 8 _))) (pa_cons (pv 1) (pa_cons (pv 3) pa_nil))) pa_nil))))))
    pss_nil))))), ?_⟩
    have hpa0 := cutM_sub _ _ hpa
    obtain ⟨p0, ps, rfl⟩ : ∃ p0 ps, path = p0 :: ps := by
      cases path with
      | nil => exact absurd rfl np
      | cons p0 ps => exact ⟨p0, ps, rfl⟩
    have R1 := R.putX (by omega)
    have s1 : SameM r.M H (upd H r.x (.ins CRd r.dx (rdF r.sh r.bl r.tp r.as (st.many + 1)))) := .put _ List.mem_cons_self
    have nxp : pa ≠ r.x := fun q => by rw [q, R.hx] at hpa0; cases hpa0
    refine ⟨_, rfl, r.x, CRd, r.dx, _, _, rfl, R.hx, G.clR, G.rMa, rfl, _, _, rfl, rfl, r.dx, _, R.hx, (by show 5 < 1000; decide), ?_⟩
    have eX : (upd H r.x (.ins CRd r.dx (rdF r.sh r.bl r.tp r.as (st.many + 1)))) r.x = some (.ins CRd r.dx (rdF r.sh r.bl r.tp r.as (st.many + 1))) := upd_same
    have pa1 : (upd H r.x (.ins CRd r.dx (rdF r.sh r.bl r.tp r.as (st.many + 1)))) pa = some (.tup (natL (p0 :: ps))) := by rw [upd_ne nxp]; exact hpa0
    show L2.Ends.nx _ _ (upd H r.x (.ins CRd r.dx (rdF r.sh r.bl r.tp r.as (st.many + 1))))
    generalize upd H r.x (.ins CRd r.dx (rdF r.sh r.bl r.tp r.as (st.many + 1))) = H1 at *
    have fail : ∀ {H2 : Hp}, SameM r.M H H2 → readS ts bs (n + 1) e (p0 :: ps) st d = .error (p0 :: ps) → ∀ dd, H2 dd = none → RdAt CS CRd H2 r ts bs (moreS st) → E (.ref CBP) (some dd) (upd H2 dd (.xd [("value", .ref pa)])) := fun {H2} s2 er dd hd R2 => by
      have ndd := R2.free hd
      refine kE _ er dd pa _ (s2.trans (.of (same_new _ hd))) ?_ (((s2.cut.trans (cutM_mono (same_new _ hd)))) _ _ hpa) upd_same
      cases q : H dd with
      | none => rfl
      | some o => rw [s2 _ _ ndd q] at hd; cases hd
    have eS : readS ts bs (n + 1) e (p0 :: ps) st d = if 40 < st.many + 1 ∨ fitsD ts bs (moreS st) p0 e d = false then .error (p0 :: ps) else
      if kindD d = "put" then .ok (noteS (moreS st) p0 d) else readL (readS ts bs n (withinD ts bs e d)) (p0 :: ps) 0 (noteS (moreS st) p0 d) (partsD ((partsD d).getLastD .none)) := rfl
    refine ⟨_, rfl, r.x, CRd, r.dx, _, _, rfl, R1.hx, G.clR, G.rMa, rfl, _, _, rfl, rfl, _, rfl, ifd (fun h1 => ?_) fun h1 => ?_⟩
    · have h1' : 40 < st.many + 1 := by
        have : (40 : Int) < ((st.many + 1 : Nat) : Int) := h1
        omega
      exact ⟨_, rfl, fun dd hd => fail s1 (by rw [eS, if_pos (.inl h1')]) dd hd R1⟩
    have h1' : ¬ 40 < st.many + 1 := fun q => h1 (show (40 : Int) < ((st.many + 1 : Nat) : Int) by omega)
    refine ⟨_, rfl, pa, _, rfl, .inr (.inl (.inl pa1)), _, _, rfl, rfl, _, rfl, ifd (fun h2 => ?_) fun h2 => ?_⟩
    · rw [natL_len] at h2
      exact absurd h2 (by omega)
    have i0 : atI (natL (p0 :: ps)) 0 = some (V.int (p0 : Nat)) := ix0
    have hv1 := hv.same s1.cut
    have he1 := he.same s1.cut
    refine ⟨_, rfl, r.x, r.dx, _, rfl, R1.hx, rfl, _, rfl, _, rfl, pa, _, 0, _, rfl, rfl, .inl (.inl pa1), i0, _, rfl, r, v, p0, ar, d, ts, bs, moreS st, e, rfl, R1, hv1.same cutM_sub, he1.same cutM_sub, hm, hz, by omega, nde, fun H2 s2 => ⟨_, rfl, ?_⟩⟩
    have s12 := s1.trans (.of s2)
    have R2 := R1.same s2
    cases ef : fitsD ts bs (moreS st) p0 e d with
    | false => exact iteT ⟨_, rfl, fun dd hd => fail s12 (by rw [eS, if_pos (.inr ef)]) dd hd R2⟩
    | true =>
      have hn : ¬ (40 < st.many + 1 ∨ fitsD ts bs (moreS st) p0 e d = false) := fun q => q.elim h1' fun q => by rw [ef] at q; cases q
      rw [eS, if_neg hn] at kQ kE
      have ef0 := ef
      unfold fitsD at ef
      rw [Bool.and_eq_true] at ef
      obtain ⟨hp, fit⟩ := ef
      have hvM := hv1.same (cutM_mono s2)
      have heM := he1.same (cutM_mono s2)
      have hpaM : (cutM H2 r.M) pa = some (.tup (natL (p0 :: ps))) := s12.cut _ _ hpa
      obtain ⟨a, xs, z, ds, rfl, ha, ed, en, ek, at_, h0, ta⟩ := st_at hvM hp
      have erow : isRowD d = true := by rw [ed]; rfl
      have nm : Named bs d := by
        rw [ek] at fit
        refine ⟨fun q => ?_, fun q => ?_⟩
        · rw [ek] at q
          rw [if_pos q] at fit
          unfold putFit putFit3 at fit
          cases y : pt d 1 with
          | str c =>
            cases w : envAt bs c with
            | some p => exact ⟨c, p, rfl, w⟩
            | none => simp only [y, w] at fit; cases fit
          | _ => simp only [y] at fit; cases fit
        · rw [ek] at q
          have nz : ¬ z = "put" := fun y => by rw [y] at q; exact absurd q (by decide)
          have ns : ¬ z = "same" := fun y => by rw [y] at q; exact absurd q (by decide)
          rw [if_neg nz, if_neg ns, q, if_pos rfl, Bool.and_eq_true, Bool.and_eq_true] at fit
          have fit := fit.2.2
          unfold entFit at fit
          cases y : pt d 2 with
          | str c =>
            cases w : envAt bs c with
            | some p => exact ⟨c, p, rfl, w⟩
            | none => simp only [y, w] at fit; cases fit
          | _ => simp only [y] at fit; cases fit
      refine iteF ⟨_, rfl, r.x, r.dx, _, rfl, R2.hx, rfl, _, rfl, _, rfl, pa, _, 0, _, rfl, rfl, .inl (.inl (cutM_sub _ _ hpaM)), i0, r, .ref a, p0, d, ts, bs, moreS st, rfl, R2, hvM, hp, nm, fun s => Nat.lt_succ_of_le (R.tl s), Nat.lt_succ_of_le R.al, fun H3 s3 R3 => ?_⟩
      have s13 := s12.trans s3
      have ha3 := cutM_sub _ _ (s3.cut _ _ ha)
      have mN : (noteS (moreS st) p0 d).many = st.many + 1 := by
        unfold noteS
        split
        · rfl
        · split <;> rfl
      refine ⟨_, rfl, a, _, 0, _, rfl, rfl, .inl (.inl ha3), atI_nat h0, rfl, _, rfl, ifn (fun nz => ?_) fun ez => ?_⟩
      rotate_left
      · have ez : kindD d = "put" := by rw [ek]; exact V.str.inj ez
        exact kQ _ (by rw [if_pos ez]) H3 s13 R3 (by rw [mN]; omega)
      · have nz : ¬ z = "put" := fun q => nz (by rw [q])
        have nk : ¬ kindD d = "put" := by rw [ek]; exact nz
        rw [if_neg nk] at kQ kE
        have fit2 := fit
        rw [ek, if_neg nz, Bool.and_eq_true] at fit2
        have lds : (partsD d).length = ds.length + 1 := by rw [ed]; rfl
        obtain ⟨er, _, _⟩ := rowD3_row fit2.1
        have epl : (partsD d).getLastD .none = pt d ds.length := by rw [lastD_pt, lds]; rfl
        rw [epl] at er kQ kE
        obtain ⟨xl, hl, tl⟩ := at_ ds.length (by omega)
        have lxs : xs.length = ds.length + 1 := ta.len
        have bl := pt_lt (d := d) (i := ds.length) erow (by omega)
        have hv3 := hvM.same s3.cut
        have he3 := heM.same s3.cut
        have hpa3 := s3.cut _ _ hpaM
        have ln' : (p0 :: ps).length + 1 + n = 9 := by omega
        refine ⟨_, rfl, r.x, r.dx, _, rfl, R3.hx, rfl, _, rfl, _, rfl, a, xs, _, xl, rfl, rfl, .inl (.inl ha3), atI_m1 (by rw [lxs]; exact hl), _, rfl, _, rfl, r.x, r.dx, _, rfl, R3.hx, rfl, _, rfl, _, rfl, r, .ref a, ar, d, ts, bs, noteS (moreS st) p0 d, moreS st, p0, e, rfl, R3, tok, hv3, he3, nk, ef0, by omega, fun a' H4 s4 e4 => ?_⟩
        refine ⟨r, xl, pa, a', pt d ds.length, ts, bs, withinD ts bs e d, noteS (moreS st) p0 d, p0 :: ps, rfl, R3.same s4, tok, ?_, e4, cutM_mono s4 _ _ hpa3, ln', ?_, ?_, by rw [mN]; omega, er, by omega, by omega, fun st' e5 H5 s5 R5 m5 => kQ st' e5 H5 ((s13.trans (.of s4)).trans s5) R5 m5, fun p e5 dd pp H5 s5 hd hp5 hd5 => kE p e5 dd pp H5 ((s13.trans (.of s4)).trans s5) ?_ hp5 hd5⟩
        · exact (tl.same s3.cut).same (cutM_mono s4)
        · unfold withinD
          split
          · omega
          · rw [List.length_append]
            show e.length + 1 ≤ _
            omega
        · unfold withinD
          rw [ek]
          split
          · exact nde
          · rename_i ns
            rw [if_neg ns, Bool.and_eq_true] at fit2
            have fr := fit2.2.1
            rw [List.map_append]
            refine List.nodup_append.mpr ⟨nde, by simp, fun u mu w mw => ?_⟩
            rintro rfl
            have ew : u = nameD (pt d 1) := by simpa using mw
            obtain ⟨q, mq, eq⟩ := List.mem_map.mp mu
            have yes := env_self nde mq
            cases y : pt d 1 with
            | str c =>
              rw [y] at fr ew
              have fr : (isNm c && !(envAt e c).isSome) = true := fr
              have e9 : q.1 = c := by rw [eq]; exact ew
              rw [e9] at yes
              rw [yes, Bool.and_eq_true] at fr
              cases fr.2
            | _ => rw [y] at fr; cases fr
        · have R4 := R3.same s4
          cases q : H dd with
          | none => rfl
          | some o => rw [(s13.trans (.of s4)) _ _ (R4.free hd) q] at hd; cases hd
theorem go_all {f1 f2 : Addr} {fd1 fd2 : FuncData} (F1 : Fun K "read_body" "Reader.read_body" s_Reader_read_body f1 fd1) (F2 : Fun K "read_statement" "Reader.read_statement" s_Reader_read_statement f2 fd2) (T : Txt K mg CS) (G : TxG K w mg CG CRd PD) (hm1 : Meth K CRd "read_body" f1) (hb1 : Binds K fd1 ps_Reader_read_body []) (hm2 : Meth K CRd "read_statement" f2) (hb2 : Binds K fd2 ps_Reader_read_statement [])
    (X_BadProgram : Xf P w K mg base "BadProgram" CBP "value") (D_fits : Dm P w K mg base CRd "fits" 6 ps_Reader_fits (spFits CS CRd)) (D_note : Dm P w K mg base CRd "note" 2 ps_Reader_note (spNote CS CRd)) (D_within : Dm P w K mg base CRd "within" 4 ps_Reader_within (spWithin CS CRd)) : ∀ n, FnOk P w K mg base (L2.CX P w) (8 + 2 * n) f2 fd2 ps_Reader_read_statement (spReadS CS CRd CBP n)
  | 0 => go_stmt0 F2 T G X_BadProgram D_fits D_note D_within ⟨f1, fd1, fn_noX fun vs H Q E h => h, hm1, hb1⟩
  | n + 1 => go_stmt F2 T G X_BadProgram D_fits D_note D_within n ⟨f1, fd1, go_body F1 T G n ⟨f2, fd2, go_all F1 F2 T G hm1 hb1 hm2 hb2 X_BadProgram D_fits D_note D_within n, hm2, hb2⟩, hm1, hb1⟩
theorem ok_Reader_read_body {f : Addr} {fd : FuncData} (F : Fun K "read_body" "Reader.read_body" s_Reader_read_body f fd) {f2 : Addr} {fd2 : FuncData} (F2 : Fun K "read_statement" "Reader.read_statement" s_Reader_read_statement f2 fd2) (T : Txt K mg CS) (G : TxG K w mg CG CRd PD) (hme : Meth K CRd "read_body" f) (hb : Binds K fd ps_Reader_read_body []) (hm2 : Meth K CRd "read_statement" f2) (hb2 : Binds K fd2 ps_Reader_read_statement [])
    (X_BadProgram : Xf P w K mg base "BadProgram" CBP "value") (D_fits : Dm P w K mg base CRd "fits" 6 ps_Reader_fits (spFits CS CRd)) (D_note : Dm P w K mg base CRd "note" 2 ps_Reader_note (spNote CS CRd)) (D_within : Dm P w K mg base CRd "within" 4 ps_Reader_within (spWithin CS CRd)) : FnOk P w K mg base (L2.CX P w) 25 f fd ps_Reader_read_body (spReadB CS CRd CBP 8) :=
  go_body F T G 8 ⟨f2, fd2, go_all F F2 T G hme hb hm2 hb2 X_BadProgram D_fits D_note D_within 8, hm2, hb2⟩
end
end Fm

/-! ## K08ZC -/
set_option Elab.async false
set_option maxRecDepth 100000
set_option maxHeartbeats 8000000
namespace Fm
open PySem L2
/-- a block, as data -/
def blkD : PyData → Bool
  | .tuple [a, f, s] => isNmD a && ((nmsD 0 3 f && nmsD 1 3 s) && nmsD 1 6 (.list (partsD f ++ partsD s)))
  | _ => false
def firstBadB (names : List Str) : List PyData → Option Nat
  | [] => none
  | d :: ds => if blkD d = true ∧ nameT d ∉ names then (firstBadB (names ++ [nameT d]) ds).map (· + 1) else some 0
def blocksBad (ts : List Tab) (d : PyData) : Option Int := if rowD3 1 6 d = true then (firstBadB (ts.map (·.1)) (partsD d)).map Int.ofNat else some (-1)
theorem firstB_ok {names : List Str} {d : PyData} {ds : List PyData} (h : blkD d = true) (n : nameT d ∉ names) : firstBadB names (d :: ds) = (firstBadB (names ++ [nameT d]) ds).map (· + 1) := by
  show (if _ then _ else _) = _
  rw [if_pos ⟨h, n⟩]
theorem firstB_bad {names : List Str} {d : PyData} {ds : List PyData} (h : ¬ (blkD d = true ∧ nameT d ∉ names)) : firstBadB names (d :: ds) = some 0 := by
  show (if _ then _ else _) = _
  rw [if_neg h]
theorem blk_no3 {d : PyData} (h : tupD 3 d = false) : blkD d = false := by
  cases d with
  | tuple ds => match ds, h with
    | [], _ => rfl
    | [_], _ => rfl
    | [_, _], _ => rfl
    | [_, _, _], h => cases h
    | _ :: _ :: _ :: _ :: _, _ => rfl
  | _ => rfl
theorem nms_row {lo hi : Int} {d : PyData} (h : nmsD lo hi d = true) : rowD3 lo hi d = true := by
  unfold nmsD at h
  rw [Bool.and_eq_true, Bool.and_eq_true] at h
  exact h.1.1
theorem siz_app (a b : List PyData) : sizL (a ++ b) = sizL a + sizL b := by
  induction a with
  | nil => show sizL b = 0 + sizL b; omega
  | cons x a ih =>
    show siz x + sizL (a ++ b) = siz x + sizL a + sizL b
    omega
theorem mst_app (a b : List PyData) : mstL (a ++ b) = max (mstL a) (mstL b) := by
  induction a with
  | nil => show mstL b = max 0 (mstL b); omega
  | cons x a ih =>
    show max (mst x) (mstL (a ++ b)) = max (max (mst x) (mstL a)) (mstL b)
    omega
section
variable {P : Program} {w : World} {K : PySem.W.Frag} {mg : Str → Option Value} {base : Heap} {CS CG CRd PD CN CBP CBB : Addr}
def spIsBlk : Sp := fun vs H Q _ => ∃ (v : V) (d : PyData), vs = [v] ∧ Tp H v d ∧ siz d ≤ 40000 ∧ mst d ≤ 100000 ∧ ∀ H', Same H H' → Q (.bl (blkD d)) H'
abbrev s_is_block : Stmt := topS 39
abbrev sc_is_blockN : List Str := ["thing", "_", "fields", "sums"]
abbrev ps_is_block : List Str := ["thing"]
theorem sc_is_block : FnScope sc_is_blockN ps_is_block (defScope s_is_block) := ⟨rfl, rfl, rfl, by decide +kernel, rfl, by decide +kernel, by decide +kernel⟩
theorem ok_is_block {f : Addr} {fd : FuncData} (F : Fun K "is_block" "is_block" s_is_block f fd) (T : Txt K mg CS) (D_is_tuple : Df P w K mg base "is_tuple" 1 ps_is_tuple (spIsTuple K)) (D_is_name : Df P w K mg base "is_name" 1 ps_is_name (spIsName K)) (D_are_names : Df P w K mg base "are_names" 2 ps_are_names (spAreNames K)) : FnOk P w K mg base CX0 3 f fd ps_is_block spIsBlk := by
  refine F.ok sc_is_block (fun vs H Q E h => ?_) (fun cdv A outer s H vs Q E hr h => ?_)
  · obtain ⟨_, _, rfl, _⟩ := h
    rfl
  · obtain ⟨v, d, rfl, hv, hz, hm, k⟩ := h
    refine ⟨_, (pss_cons (ps_if (PW.pt (pw_or (pt_not (pt_val (pe_d D_is_tuple (hr.mono (by decide)) (pa_cons (pv 0) (pa_cons pe_int pa_nil))))) (pw_or1 (pt_not (pt_val (pe_d D_is_name (hr.mono (by decide)) (pa_cons (pe_ix ix_tup (pv 0) pe_int (fun _ _ => rfl)) pa_nil)))))))
    (pss_one (ps_ret pe_bl))
    pss_nil)
  (pss_cons (ps_asg (pv 0) (pg_tup (by rfl) (pgs_cons (pg_name (i := 1) sc_is_block.nd rfl (Or.inl rfl)) (pgs_cons (pg_name (i := 2) sc_is_block.nd rfl (Or.inl rfl)) (pgs_cons (pg_name (i := 3) sc_is_block.nd rfl (Or.inl rfl)) pgs_nil)))))
  (pss_cons (ps_if (PW.pt (pw_or (pt_not (pt_val (pe_d D_are_names (hr.mono (by decide)) (pa_cons (pv 2) (pa_cons pe_int (pa_cons (pe_gI T.g_MOST_KEYS) pa_nil)))))) (pw_or1 (pt_not (pt_val (pe_d D_are_names (hr.mono (by decide)) (pa_cons (pv 3) (pa_cons pe_int (pa_cons (pe_gI T.g_MOST_SUMS) pa_nil)))))))))
    (pss_one (ps_ret pe_bl))
    pss_nil)
  (pss_one (ps_ret (pe_d D_are_names (hr.mono (by decide)) (pa_cons (pe_lst (StX.pa_star (pv 2) (StX.pa_star (pv 3) pa_nil))) (pa_cons pe_int (pa_cons (pe_op op_add (pe_gI T.g_MOST_KEYS) (pe_gI T.g_MOST_SUMS)) pa_nil))))))))), ?_⟩
    refine ⟨_, rfl, v, d, 3, rfl, hv, _, rfl, ?_⟩
    cases h3 : tupD 3 d with
    | false =>
      rw [blk_no3 h3] at k
      exact iteT (k _ (Same.refl _))
    | true =>
      obtain ⟨a, b, c, rfl⟩ := tup3 h3
      obtain ⟨p, x, y, z, rfl, hp, h1, h2, h4⟩ := tp3 hv
      have ma := mst_mem (ds := [a, b, c]) (d := a) (by simp)
      have mb := mst_mem (ds := [a, b, c]) (d := b) (by simp)
      have mc := mst_mem (ds := [a, b, c]) (d := c) (by simp)
      have zb := siz_mem (ds := [a, b, c]) (d := b) (by simp)
      have zc := siz_mem (ds := [a, b, c]) (d := c) (by simp)
      have hm2 : mstL [a, b, c] ≤ 100000 := hm
      have hz2 : 1 + sizL [a, b, c] ≤ 40000 := hz
      have k : ∀ H', Same H H' → Q (.bl (isNmD a && ((nmsD 0 3 b && nmsD 1 3 c) && nmsD 1 6 (.list (partsD b ++ partsD c))))) H' := k
      refine iteF ⟨_, rfl, p, _, 0, _, rfl, rfl, .inl (.inl hp), ix0, x, isNmD a, rfl, nm_case h1 (by omega), fun H1 s1 => ⟨_, rfl, ?_⟩⟩
      cases ea : isNmD a with
      | false =>
        rw [ea] at k
        exact iteT (k _ s1)
      | true =>
        rw [ea, Bool.true_and] at k
        refine iteF ⟨_, rfl, p, _, rfl, .inl (.inl (s1 _ _ hp)), rfl, _, _, rfl, _, _, rfl, _, _, rfl, rfl, ?_⟩
        refine ⟨_, rfl, y, b, 0, 3, rfl, h2.same s1, by omega, by omega, by decide, fun H2 s2 => ⟨_, rfl, ?_⟩⟩
        have s12 := s1.trans s2
        cases eb : nmsD 0 3 b with
        | false =>
          rw [eb] at k
          exact iteT (k _ s12)
        | true =>
          rw [eb, Bool.true_and] at k
          refine iteF ⟨_, rfl, z, c, 1, 3, rfl, h4.same s12, by omega, by omega, by decide, fun H3 s3 => ⟨_, rfl, ?_⟩⟩
          have s13 := s12.trans s3
          cases ec : nmsD 1 3 c with
          | false =>
            rw [ec] at k
            exact iteT (k _ s13)
          | true =>
            rw [ec, Bool.true_and] at k
            obtain ⟨e1, _, l1⟩ := rowD3_row (nms_row eb)
            obtain ⟨e2, _, l2⟩ := rowD3_row (nms_row ec)
            obtain ⟨fa, xs, rfl, hx, hxa⟩ := (h2.same s13).row e1
            obtain ⟨sa, ys, rfl, hy, hya⟩ := (h4.same s13).row e2
            have lx := hxa.len
            have ly := hya.len
            have zb' := zb
            have zc' := zc
            have mb' := mb
            have mc' := mc
            rw [siz_row e1] at zb'
            rw [siz_row e2] at zc'
            rw [mst_row e1] at mb'
            rw [mst_row e2] at mc'
            refine iteF ⟨_, rfl, fa, xs, rfl, (rw_sq hx).symm, _, rfl, sa, ys, rfl, (rw_sq hy).symm, ?_, fun lp hlp => ?_⟩
            · rw [List.length_append, List.append_nil]
              exact Nat.le_trans (show _ ≤ 100 by omega) (by decide)
            · have s34 : Same H3 (upd H3 lp (.lst (xs ++ (ys ++ [])))) := same_new _ hlp
              have lp4 : (upd H3 lp (.lst (xs ++ (ys ++ [])))) lp = some (.lst (xs ++ ys)) := by rw [upd_same, List.append_nil]
              generalize upd H3 lp (.lst (xs ++ (ys ++ []))) = H4 at *
              have tl : Tp H4 (.ref lp) (.list (partsD b ++ partsD c)) := .lst lp4 ((hxa.same s34).app (hya.same s34))
              refine ⟨_, _, rfl, rfl, .ref lp, .list (partsD b ++ partsD c), 1, 6, rfl, tl, ?_, ?_, by decide, fun H5 s5 => k _ ((s13.trans s34).trans s5)⟩
              · show 1 + sizL (partsD b ++ partsD c) ≤ 100000
                rw [siz_app]
                omega
              · show mstL (partsD b ++ partsD c) ≤ 100000
                rw [mst_app]
                omega
theorem blk_str {H : Hp} {v : V} {d : PyData} (hv : Tp H v d) (h : blkD d = true) : ∃ p x y, v = .ref p ∧ H p = some (.tup [.str (nameT d), x, y]) := by
  have h3 : tupD 3 d = true := by
    cases q : tupD 3 d with
    | true => rfl
    | false => rw [blk_no3 q] at h; cases h
  obtain ⟨a, b, c, rfl⟩ := tup3 h3
  obtain ⟨p, x, y, z, rfl, hp, h1, h2, h4⟩ := tp3 hv
  have h : (isNmD a && _) = true := h
  rw [Bool.and_eq_true] at h
  obtain ⟨s, rfl, _⟩ := nmD_str h.1
  obtain rfl : x = V.str s := h1.strI
  exact ⟨p, y, z, rfl, hp⟩
def spChkB (CS CBB : Addr) : Sp := fun vs H Q E => ∃ (sh : Addr) (v : V) (d : PyData) (ts : List Tab), vs = [.ref sh, v] ∧ ShT CS H sh (tsD ts) ∧ TsOk ts ∧ Tp H v d ∧ siz d ≤ 40000 ∧ mst d ≤ 100000 ∧ (blocksBad ts d = none → ∀ H', Same H H' → Q .non H') ∧ ∀ i, blocksBad ts d = some i → ErrAt H i (E (.ref CBB))
abbrev s_check_blocks : Stmt := topS 38
abbrev sc_check_blocksN : List Str := ["shape", "blocks", "table", "_", "names", "at", "block"]
abbrev ps_check_blocks : List Str := ["shape", "blocks"]
theorem sc_check_blocks : FnScope sc_check_blocksN ps_check_blocks (defScope s_check_blocks) := ⟨rfl, rfl, rfl, by decide +kernel, rfl, by decide +kernel, by decide +kernel⟩
theorem ok_check_blocks {f : Addr} {fd : FuncData} (F : Fun K "check_blocks" "check_blocks" s_check_blocks f fd) (T : Txt K mg CS) (X_BadBlock : Xf P w K mg base "BadBlock" CBB "at") (D_is_row : Df P w K mg base "is_row" 1 ps_is_row (spIsRow K)) (D_is_block : Df P w K mg base "is_block" 3 ps_is_block spIsBlk) :
    FnOk P w K mg base (L2.CX P w) 4 f fd ps_check_blocks (spChkB CS CBB) := by
  refine F.okX sc_check_blocks (fun vs H Q E h => ?_) (fun cdv A outer s H vs Q E hr h => ?_)
  · obtain ⟨_, _, _, _, rfl, _⟩ := h
    rfl
  · obtain ⟨sh, v, d, ts, rfl, shA, tok, hv, hz, hm, kQ, kE⟩ := h
    obtain ⟨Tx, hno⟩ := X_BadBlock.oex
    refine ⟨_, (pss_cons (ps_if (pt_not (pt_val (pe_d D_is_row (hr.mono (by decide)) (pa_cons (pv 1) (pa_cons pe_int (pa_cons (pe_gI T.g_MOST_BLOCKS) pa_nil))))))
    (pss_one (ps_rG X_BadBlock (hr.mono (by decide)) (takes_of rfl rfl rfl rfl) (pe_un un_neg pe_int)))
    pss_nil)
  (pss_cons (ps_setLc (i := 4) (own := [("table", 2), ("_", 3)]) (g := gTup K 2 (gCons (gName 2) (gCons (gName 3) gNil))) (tt := tYes) (by rfl) sc_check_blocks.nd rfl rfl (sw_true rfl rfl rfl (by decide +kernel)) (pi_tup (pe_fld (pv 0) rfl)) (blkOk_by (own := [("table", 2), ("_", 3)]) (N := sc_check_blocksN) (sc := defScope s_check_blocks) (by decide +kernel)) (fun _ _ _ _ _ => pg_tup (by rfl) (pgs_cons (pg_name (i := 2) sc_check_blocks.nd rfl (Or.inl rfl)) (pgs_cons (pg_name (i := 3) sc_check_blocks.nd rfl (Or.inl rfl)) pgs_nil))) (fun _ _ _ _ _ => pts_nil) (fun _ _ _ _ _ => (pv 2)))
  (pss_one (ps_for PassesOwn.leaving rfl (pi_enumA (by rfl) T.n_enumerate (pa_cons (pv 1) pa_nil)) (pg_tup (by rfl) (pgs_cons (pg_name (i := 5) sc_check_blocks.nd rfl (Or.inl rfl)) (pgs_cons (pg_name (i := 6) sc_check_blocks.nd rfl (Or.inl rfl)) pgs_nil)))
    (pss_cons (ps_if (PW.pt (pw_or (pt_not (pt_val (pe_d D_is_block (hr.mono (by decide)) (pa_cons (pv 6) pa_nil)))) (pw_or1 (pt_cmpR op_in_seq (pe_ix ix_tup (pv 6) pe_int (fun _ _ => rfl)) (pv 4) (by rfl)))))
      (pss_one (ps_rE X_BadBlock (hr.mono (by decide)) (takes_of rfl rfl rfl rfl) (pv 5)))
      pss_nil)
    (pss_one (ps_expr (pe_bm PySem.F.plainAttrs_list PySem.F.slot_list_append PySem.F.type_list_append mt_append (pv 4) (pa_cons (pe_ix ix_tup (pv 6) pe_int (fun _ _ => rfl)) pa_nil))))))))), ?_⟩
    refine ⟨_, rfl, v, d, 1, 6, rfl, hv, fun H1 s1 => ⟨_, rfl, ?_⟩⟩
    cases er : rowD3 1 6 d with
    | false =>
      have z : blocksBad ts d = some (-1) := by
        unfold blocksBad
        rw [er]
        rfl
      refine iteT ⟨1, rfl, (by show 1 ≤ 1000; decide), fun a ha => init_read (v := .int (-1)) (Q := fun cls d H' => E cls d H') Tx hno ha fun dd hd => ?_⟩
      exact kE _ z dd _ (s1.trans (same_new _ hd)) (s1.free hd) upd_same
    | true =>
      have z : blocksBad ts d = (firstBadB (ts.map (·.1)) (partsD d)).map Int.ofNat := by
        unfold blocksBad
        rw [er]
        rfl
      obtain ⟨e, _, l6⟩ := rowD3_row er
      obtain ⟨a, xs, rfl, hx, ha⟩ := (hv.same s1).row e
      rw [siz_row e] at hz
      rw [mst_row e] at hm
      rw [z] at kQ kE
      obtain ⟨dx, tv, hsh, dtv⟩ := shA.same s1
      obtain ⟨tpl, txs, rfl, htp, hd⟩ := (show Tp H1 tv (.tuple (ts.map (tabD false))) from dtv).tuple
      have ltx := hd.len
      rw [List.length_map] at ltx
      have l5 := tok.hi
      refine iteF ⟨_, rfl, sh, CS, dx, _, _, rfl, hsh, T.cl, T.nT, rfl, tpl, rfl, ⟨_, .inl (.inl htp)⟩, fun l hl => ?_⟩
      refine lc_it walk_tup (fun i H' => Same H1 H' ∧ H' l = some (.lst ((ts.take i).map fun t => V.str t.1))) ⟨same_new _ hl, upd_same⟩ (fun i H' _ z => .inl (.inl (z.1 _ _ htp))) ?_ ?_
      · rintro i x H2 H3 hi ⟨s2, d2⟩ ⟨rfl, hx⟩
        obtain ⟨c, hc, hxc⟩ := hd.at hx
        rw [List.getElem?_map] at hc
        obtain ⟨t, ht, rfl⟩ := Option.map_eq_some_iff.mp hc
        obtain ⟨p, q, rfl, hp, hq⟩ := tab_in hxc
        refine ⟨p, _, rfl, .inl (.inl (s2 _ _ hp)), rfl, _, _, rfl, _, _, rfl, rfl, rfl, _, rfl, ?_⟩
        exact ⟨_, d2, take_lt _ (by omega), same_put s2 _ hl, by rw [upd_same, map_take _ ht]⟩
      rintro H2 ⟨s2, d2⟩
      rw [ltx, List.take_length, show (ts.map fun t => V.str t.1) = (ts.map (·.1)).map V.str by rw [List.map_map]; rfl] at d2
      have lns : (ts.map (·.1)).length ≤ 5 := by rw [List.length_map]; exact l5
      generalize ts.map (·.1) = ns at *
      refine ⟨_, rfl, a, xs, rfl, enum_of (K := K) (rw_sq hx) s2 fun J G gm wk => ?_⟩
      refine for_it wk (fun i σ H' => ∃ v5 v6, σ = [some (.ref sh), some (.ref a), none, none, some (.ref l), v5, v6] ∧ Same H1 H' ∧ H' l = some (.lst ((ns ++ ((partsD d).take i).map nameT).map V.str)) ∧ firstBadB ns (partsD d) = (firstBadB (ns ++ ((partsD d).take i).map nameT) ((partsD d).drop i)).map (· + i))
        ⟨_, _, rfl, s2, by simpa using d2, by simp⟩ (fun i σ H' _ z => by obtain ⟨_, _, _, z, _⟩ := z; exact gm H' z) ?_ ?_
      · rintro i x σ H3 H4 hi ⟨v5, v6, rfl, s3, d3, inv⟩ ⟨T0, x1, y, rfl, hT, rfl, e1, hy⟩
        obtain rfl : V.int (i : Nat) = x1 := Option.some.inj e1
        obtain ⟨c, hc, hcv⟩ := ha.at hy
        have mc := List.mem_of_getElem? hc
        have yz := siz_mem mc
        have ym := mst_mem mc
        have dr : (partsD d).drop i = c :: (partsD d).drop (i + 1) := by
          obtain ⟨hl, q⟩ := List.getElem?_eq_some_iff.mp hc
          rw [← q]
          exact List.drop_eq_getElem_cons hl
        rw [dr] at inv
        have s4 : Same H1 (upd H3 T0 (.tup [V.int (i : Nat), y])) := s3.trans (same_new _ hT)
        have nlT : l ≠ T0 := ne_of_none d3 hT
        have hT' : (upd H3 T0 (.tup [V.int (i : Nat), y])) T0 = some (.tup [V.int (i : Nat), y]) := upd_same
        have d4 : (upd H3 T0 (.tup [V.int (i : Nat), y])) l = some (.lst ((ns ++ ((partsD d).take i).map nameT).map V.str)) := by rw [upd_ne nlT]; exact d3
        generalize upd H3 T0 (.tup [V.int (i : Nat), y]) = H5 at *
        refine ⟨T0, _, rfl, .inl (.inl hT'), rfl, _, _, rfl, _, _, rfl, rfl, ?_⟩
        have raise : ∀ {G : Hp}, Same H1 G → firstBadB ns (partsD d) = some i → ∀ dd, G dd = none → E (.ref CBB) (some dd) (upd G dd (.xd [("at", .int (i : Nat))])) := fun sG q dd hd =>
          kE (i : Nat) (by rw [q]; rfl) dd _ (s1.trans (sG.trans (same_new _ hd))) (s1.free (sG.free hd)) upd_same
        refine ⟨_, rfl, y, c, rfl, hcv.same s4, by omega, by omega, fun H6 s6 => ⟨_, rfl, ?_⟩⟩
        have s16 := s4.trans s6
        cases et : blkD c with
        | false =>
          have q : firstBadB ns (partsD d) = some i := by
            rw [inv, firstB_bad (fun z => by rw [et] at z; cases z.1)]
            show some (0 + i) = some i
            rw [Nat.zero_add]
          exact iteT (iteT ⟨_, rfl, fun dd hd => raise s16 q dd hd⟩)
        | true =>
          obtain ⟨p, rx, ry, rfl, hp⟩ := blk_str (hcv.same s16) et
          have d6 := s6 _ _ d4
          refine iteF ⟨_, rfl, p, _, 0, .str (nameT c), rfl, rfl, .inl (.inl hp), ix0, _, rfl, l, _, rfl, .inl (.inl (.inl d6)), rfl, ?_, _, rfl, ?_⟩
          · rw [List.all_map]
            simp [flatV]
          · show (if inV (V.str (nameT c)) ((ns ++ ((partsD d).take i).map nameT).map V.str) = true then _ else _)
            rw [inV_str]
            refine ifd (fun yes => ?_) fun no => ?_
            · have q : firstBadB ns (partsD d) = some i := by
                rw [inv, firstB_bad (fun z => z.2 yes)]
                show some (0 + i) = some i
                rw [Nat.zero_add]
              exact ⟨_, rfl, fun dd hd => raise s16 q dd hd⟩
            · refine ⟨_, rfl, .inl ⟨rfl, _, .inl (.inl d6)⟩, _, rfl, p, _, 0, .str (nameT c), rfl, rfl, .inl (.inl hp), ix0, l, _, _, rfl, rfl, d6, ?_, ?_⟩
              · rw [List.length_map, List.length_append, List.length_map, List.length_take]
                exact Nat.lt_of_le_of_lt (show _ ≤ 100 by omega) (by decide)
              · refine ⟨_, _, rfl, same_put s16 _ hl, ?_, ?_⟩
                · rw [upd_same, map_take _ hc, ← List.append_assoc, List.map_append (l₁ := ns ++ _)]
                  rfl
                · rw [inv, firstB_ok et no, map_take _ hc, ← List.append_assoc]
                  cases firstBadB (ns ++ ((partsD d).take i).map nameT ++ [nameT c]) ((partsD d).drop (i + 1)) with
                  | none => rfl
                  | some j =>
                    show some (j + 1 + i) = some (j + (i + 1))
                    rw [Nat.add_assoc, Nat.add_comm 1 i]
      · rintro σ H3 ⟨v5, v6, rfl, s3, d3, inv⟩
        rw [ha.len, List.drop_length] at inv
        exact kQ (by rw [inv]; rfl) _ (s1.trans s3)
end
end Fm

/-! ## FmDc -/
set_option Elab.async false
set_option maxRecDepth 100000
set_option maxHeartbeats 4000000
namespace Fm
open PySem L2
section
variable {κ : Type} [DecidableEq κ]
theorem put_new {kvs : List (κ × V)} {k : κ} {z : V} (h : k ∉ kvs.map (·.1)) : putK kvs k z = kvs ++ [(k, z)] := by
  unfold putK
  rw [if_neg]
  intro e
  rw [List.any_eq_true] at e
  obtain ⟨kv, m, q⟩ := e
  exact h (List.mem_map.mpr ⟨kv, m, of_decide_eq_true q⟩)
theorem val_old {kvs : List (κ × V)} {k j : κ} {z v : V} (h : valV kvs j = some v) : valV (kvs ++ [(k, z)]) j = some v := by
  unfold valV at *
  rw [List.find?_append]
  cases q : kvs.find? fun kv => decide (kv.1 = j) with
  | none => rw [q] at h; cases h
  | some u => rw [q] at h; exact h
theorem val_new {kvs : List (κ × V)} {k : κ} {z : V} (h : k ∉ kvs.map (·.1)) : valV (kvs ++ [(k, z)]) k = some z := by
  unfold valV
  rw [List.find?_append]
  have q : kvs.find? (fun kv => decide (kv.1 = k)) = none := by
    rw [List.find?_eq_none]
    intro kv m e
    exact h (List.mem_map.mpr ⟨kv, m, of_decide_eq_true e⟩)
  rw [q]
  simp
end
theorem nodup_take' {l : List Str} {i : Nat} {x : Str} (h : l.Nodup) (hx : l[i]? = some x) : x ∉ l.take i := fun m => by
  obtain ⟨hl, e⟩ := List.getElem?_eq_some_iff.mp hx
  obtain ⟨j, hj, ej⟩ := List.getElem_of_mem m
  rw [List.length_take] at hj
  rw [List.getElem_take] at ej
  have z := (List.getElem_inj (h₀ := by omega) (h₁ := hl) h).mp (ej.trans e.symm)
  omega
/-- a comprehension of a dict over any walk -/
theorem dc_it {J : It} {n : Nat} {G : Hp → Prop} {Y : Nat → Hp → V → Hp → Prop} (w : Walk J n G Y) {g : TG} {tt : TT} {tk tv : TE} {vs : List Nat} {σ : St} {H1 : Hp} {D : Addr} {Qd : Hp → Prop} (Pv : Nat → Hp → Prop) (h0 : Pv 0 (upd H1 D (.dK []))) (hG : ∀ i H, i ≤ n → Pv i H → G H)
    (hs : ∀ i x H H', i < n → Pv i H → Y i H x H' → g x (wipe σ vs) H' fun σ2 H2 => wipe σ2 vs = wipe σ vs ∧ tt σ2 H2 fun b H3 =>
      if b = true then tk σ2 H3 fun y H4 => tv σ2 H4 fun z H5 => ∃ kvs k, y = kV k ∧ H5 D = some (.dK kvs) ∧ kvs.length < sizeLine ∧ Pv (i + 1) (upd H5 D (.dK (putK kvs k z))) else Pv (i + 1) H3) (hd : ∀ H, Pv n H → Qd H) :
    ∃ W : Nat → Nat → Hp → Prop, (∃ m, W 0 m (upd H1 D (.dK []))) ∧ ∀ i m H, W i m H →
      (J.stop i H ∧ Qd H) ∨ (J.go i H ∧ ∃ Nx : Hp → Prop, (∀ H', Nx H' → ∃ m', m' < m ∧ W (i + 1) m' H') ∧ ∀ x H', J.yld i H x H' → g x (wipe σ vs) H' fun σ2 H2 => wipe σ2 vs = wipe σ vs ∧ tt σ2 H2 fun b H3 =>
        if b = true then tk σ2 H3 fun y H4 => tv σ2 H4 fun z H5 => ∃ kvs k, y = kV k ∧ H5 D = some (.dK kvs) ∧ kvs.length < sizeLine ∧ Nx (upd H5 D (.dK (putK kvs k z))) else Nx H3) := by
  refine ⟨fun i m H => m = n - i ∧ i ≤ n ∧ Pv i H, ⟨n, by simp, Nat.zero_le _, h0⟩, ?_⟩
  rintro i m H ⟨rfl, hi, p⟩
  have q := hG i H hi p
  by_cases hlt : i < n
  · refine .inr ⟨w.goes i H hlt q, Pv (i + 1), fun H' p' => ⟨n - (i + 1), by omega, rfl, hlt, p'⟩, fun x H' y => hs i x H H' hlt p (w.yields i H x H' hlt q y)⟩
  · have e : i = n := by omega
    subst e
    exact .inl ⟨w.stops H q, hd H p⟩
end Fm

/-! ## K08ZD -/
set_option Elab.async false
set_option maxRecDepth 100000
set_option maxHeartbeats 8000000
namespace Fm
open PySem L2
/-- a block as a tuple -/
def blkT (p : Str × List Str × List Str) : PyData := .tuple [.str p.1, .tuple (p.2.1.map PyData.str), .tuple (p.2.2.map PyData.str)]
def SameX (x : Addr) (H H' : Hp) : Prop := ∀ b o, b ≠ x → H b = some o → H' b = some o
theorem SameX.of {x : Addr} {H H' : Hp} (s : Same H H') : SameX x H H' := fun b o _ e => s b o e
theorem SameX.trans {x : Addr} {H H1 H2 : Hp} (s : SameX x H H1) (t : SameX x H1 H2) : SameX x H H2 := fun b o n e => t b o n (s b o n e)
theorem SameX.put {x : Addr} {H H1 : Hp} (s : SameX x H H1) (o : HO) : SameX x H (upd H1 x o) := fun b u n e => by
  rw [upd_ne n]
  exact s b u n e
theorem SameX.cut {x : Addr} {H H1 : Hp} (s : SameX x H H1) : Same (cut H x) (cut H1 x) := fun b o e => by
  have n : b ≠ x := fun z => by rw [z, cut_at] at e; cases e
  rw [cut_ne n] at e ⊢
  exact s b o n e
theorem upd2 {H : Hp} {a : Addr} {o u : HO} : upd (upd H a o) a u = upd H a u := funext fun b => by
  by_cases z : b = a
  · rw [z, upd_same, upd_same]
  · rw [upd_ne z, upd_ne z, upd_ne z]
def f1 (sh : Addr) : List (Str × V) := [("shape", .ref sh)]
def f2 (sh bl : Addr) : List (Str × V) := [("shape", .ref sh), ("blocks", .ref bl)]
def f3 (sh bl : Addr) : List (Str × V) := [("shape", .ref sh), ("blocks", .ref bl), ("many", .int 0)]
def f4 (sh bl tp : Addr) : List (Str × V) := [("shape", .ref sh), ("blocks", .ref bl), ("many", .int 0), ("tops", .ref tp)]
def rs0 : RS := ⟨0, fun _ => [], []⟩
section
variable {P : Program} {w : World} {K : PySem.W.Frag} {mg : Str → Option Value} {base : Heap} {CS CG CRd PD CN CBP CBB : Addr}
def spRdInit (CS CRd : Addr) : Sp := fun vs H Q _ => ∃ (F0 : Hp) (x dx : Addr) (sh bp : Addr) (ts : List Tab) (bs : Env), vs = [.ref x, .ref sh, .ref bp] ∧ H x = some (.ins CRd dx []) ∧ Same F0 H ∧ F0 x = none ∧ ShT CS F0 sh (tsD ts) ∧ Tp F0 (.ref bp) (.tuple (bs.map blkT)) ∧ (bs.map (·.1)).Nodup ∧ bs.length ≤ 6 ∧
  ∀ (r : RdA) H', r.x = x → (∀ a ∈ r.M, F0 a = none) → SameX x H H' → RdAt CS CRd H' r ts bs rs0 → Q .non H'
abbrev s_Reader_init : Stmt := inClass (topS 37) 0
abbrev sc_Reader_initN : List Str := ["self", "shape", "blocks", "name", "fields", "sums"]
abbrev ps_Reader_init : List Str := ["self", "shape", "blocks"]
theorem sc_Reader_init : FnScope sc_Reader_initN ps_Reader_init (defScope s_Reader_init) := ⟨rfl, rfl, rfl, by decide +kernel, rfl, by decide +kernel, by decide +kernel⟩
theorem ok_Reader_init {f : Addr} {fd : FuncData} (F : Fun K "__init__" "Reader.__init__" s_Reader_init f fd) (T : Txt K mg CS) (G : TxG K w mg CG CRd PD) : FnOk P w K mg base CX0 1 f fd ps_Reader_init (spRdInit CS CRd) := by
  refine F.ok sc_Reader_init (fun vs H Q E h => ?_) (fun cdv A outer s H vs Q E hr h => ?_)
  · obtain ⟨_, _, _, _, _, _, _, rfl, _⟩ := h
    rfl
  · obtain ⟨F0, x, dx, sh, bp, ts, bs, rfl, hx, sF, fx, shA, hb, nd, l6, k⟩ := h
    refine ⟨_, (pss_cons (ps_fld (pv 0) (pv 1) rfl)
  (pss_cons (ps_fld (pv 0) (L2.pe_dc (own := [("name", 3), ("fields", 4), ("sums", 5)]) (g := gTup K 3 (gCons (gName 3) (gCons (gName 4) (gCons (gName 5) gNil)))) (tt := tYes) (by rfl) sc_Reader_init.nd (pi_tup (pv 2)) (blkOk_by (own := [("name", 3), ("fields", 4), ("sums", 5)]) (N := sc_Reader_initN) (sc := defScope s_Reader_init) (by decide +kernel)) (fun _ _ _ _ _ => pg_tup (by rfl) (pgs_cons (pg_name (i := 3) sc_Reader_init.nd rfl (Or.inl rfl)) (pgs_cons (pg_name (i := 4) sc_Reader_init.nd rfl (Or.inl rfl)) (pgs_cons (pg_name (i := 5) sc_Reader_init.nd rfl (Or.inl rfl)) pgs_nil)))) (fun _ _ _ _ _ => pts_nil) (fun _ _ _ _ _ => (pv 3)) (fun _ _ _ _ _ => (pe_tup (pa_cons (pv 4) (pa_cons (pv 5) pa_nil))))) rfl)
  (pss_cons (ps_fld (pv 0) pe_int rfl)
  (pss_cons (ps_lock (ps_fld (pv 0) (L2.pe_dc (own := [("name", 3)]) (g := gName 3) (tt := tYes) (by rfl) sc_Reader_init.nd (pi_keys (pe_fld (pv 0) rfl)) (blkOk_by (own := [("name", 3)]) (N := sc_Reader_initN) (sc := defScope s_Reader_init) (by decide +kernel)) (fun _ _ _ _ _ => pg_name (i := 3) sc_Reader_init.nd rfl (Or.inl rfl)) (fun _ _ _ _ _ => pts_nil) (fun _ _ _ _ _ => (pv 3)) (fun _ _ _ _ _ => (pe_lst pa_nil))) rfl))
  (pss_one (ps_fld (pv 0) pe_dnewK rfl)))))), ?_⟩
    refine ⟨_, rfl, _, rfl, x, CRd, dx, _, rfl, hx, G.clR, G.rSh, (by show 0 < 1000; decide), ?_⟩
    rw [show putF "shape" (.ref sh) ([] : List (Str × V)) = f1 sh from rfl]
    have hx1 : (upd H x (.ins CRd dx (f1 sh))) x = some (.ins CRd dx (f1 sh)) := upd_same
    have s1 : SameX x H (upd H x (.ins CRd dx (f1 sh))) := (SameX.of (Same.refl _)).put _
    have sF1 : Same F0 (upd H x (.ins CRd dx (f1 sh))) := same_put sF _ fx
    generalize upd H x (.ins CRd dx (f1 sh)) = H1 at *
    obtain ⟨bp', xs, eb, hbp, ta⟩ := hb.tuple
    obtain rfl : bp = bp' := V.ref.inj eb
    have lxs := ta.len
    rw [List.length_map] at lxs
    refine ⟨_, rfl, bp, rfl, ⟨_, .inl (.inl (sF1 _ _ hbp))⟩, fun D hD => ?_⟩
    refine dc_it walk_tup (fun i H' => Same H1 H' ∧ ∃ kvs, H' D = some (.dK kvs) ∧ Paired (EnvP (cutM H' [x, D])) kvs (bs.take i)) ⟨same_new _ hD, [], upd_same, by rw [List.take_zero]; exact .nil⟩ (fun i H' _ z => .inl (.inl (z.1 _ _ (sF1 _ _ hbp)))) ?_ ?_
    · rintro i y Hz H2 hi ⟨s2, kvs, d2, pe⟩ ⟨rfl, hy⟩
      obtain ⟨c, hc, hcv⟩ := ta.at hy
      rw [List.getElem?_map] at hc
      obtain ⟨b, hbi, rfl⟩ := Option.map_eq_some_iff.mp hc
      obtain ⟨p, x1, x2, x3, rfl, hp, h1, h2, h3⟩ := tp3 hcv
      obtain rfl : x1 = V.str b.1 := h1.strI
      obtain ⟨fa, fx1, rfl, hfa, tfa⟩ := h2.tuple
      obtain ⟨sa, sx1, rfl, hsa, tsa⟩ := h3.tuple
      rw [strs_inv tfa] at hfa
      rw [strs_inv tsa] at hsa
      have sF2 := sF1.trans s2
      refine ⟨p, _, rfl, .inl (.inl (sF2 _ _ hp)), rfl, _, _, rfl, _, _, rfl, _, _, rfl, rfl, rfl, _, rfl, _, rfl, _, rfl, (by show 2 ≤ sizeLine; decide), fun q hq => ?_⟩
      have nk : (Sum.inr b.1 : Key) ∉ kvs.map (·.1) := fun m => by
        obtain ⟨kv, mk, ek⟩ := List.mem_map.mp m
        obtain ⟨j, hj⟩ := List.getElem?_of_mem mk
        obtain ⟨pp, hp1, hp2, _⟩ := env_at (k := kv.1) (v := kv.2) pe hj
        rw [ek] at hp2
        have e1 : b.1 = pp.1 := Sum.inr.inj hp2
        obtain ⟨hj2, e2⟩ := List.getElem?_eq_some_iff.mp hp1
        rw [List.length_take] at hj2
        rw [List.getElem_take] at e2
        obtain ⟨hi2, e3⟩ := List.getElem?_eq_some_iff.mp hbi
        have := (List.getElem_inj (xs := bs.map (·.1)) (h₀ := by rw [List.length_map]; omega) (h₁ := by rw [List.length_map]; omega) nd).mp (show (bs.map (·.1))[j]'(by rw [List.length_map]; omega) = (bs.map (·.1))[i]'(by rw [List.length_map]; omega) by rw [List.getElem_map, List.getElem_map, e2, e3, e1])
        omega
      have lk := env_len pe
      rw [List.length_take] at lk
      have s3 : Same H2 (upd H2 q (.tup [V.ref fa, V.ref sa])) := same_new _ hq
      have hq3 : (upd H2 q (.tup [V.ref fa, V.ref sa])) q = some (.tup [V.ref fa, V.ref sa]) := upd_same
      have nxq : q ≠ x := fun z => by rw [z] at hq; rw [s2 _ _ hx1] at hq; cases hq
      generalize upd H2 q (.tup [V.ref fa, V.ref sa]) = H3 at *
      refine ⟨kvs, Sum.inr b.1, rfl, s3 _ _ d2, Nat.lt_of_le_of_lt (show _ ≤ 6 by omega) (by decide), ?_⟩
      rw [put_new nk]
      refine ⟨same_put (s2.trans s3) _ hD, _, upd_same, ?_⟩
      have g0 : Same (cutM H2 [x, D]) (cutM (upd H3 D (.dK (kvs ++ [(Sum.inr b.1, V.ref q)]))) [x, D]) := by
        rw [cutM_put (by simp)]
        exact cutM_mono s3
      have nDq : q ≠ D := fun z => by rw [z, d2] at hq; cases hq
      have old : ∀ {a : Addr} {xs : List V}, F0 a = some (.tup xs) → (cutM (upd H3 D (.dK (kvs ++ [(Sum.inr b.1, V.ref q)]))) [x, D]) a = some (.tup xs) := fun {a xs} h => by
        have h2 := sF2 _ _ h
        refine g0 _ _ ?_
        rw [cutM_in (by simp only [List.mem_cons, List.not_mem_nil, or_false, not_or]; exact ⟨fun z => (by rw [z, s2 _ _ hx1] at h2; cases h2), fun z => (by rw [z, d2] at h2; cases h2)⟩)]
        exact h2
      have eT : bs.take (i + 1) = bs.take i ++ [b] := by rw [List.take_add_one, hbi]; rfl
      rw [eT]
      refine EnvP.snoc (kv := (Sum.inr b.1, V.ref q)) (p := b) ⟨rfl, q, fa, sa, rfl, ?_, old hfa, old hsa⟩ (envP_same g0 pe)
      rw [cutM_put (by simp), cutM_in (by simp only [List.mem_cons, List.not_mem_nil, or_false, not_or]; exact ⟨nxq, nDq⟩)]
      exact hq3
    rintro H2 ⟨s2, kvs, d2, pe⟩
    rw [lxs, List.take_length] at pe
    have sF2 := sF1.trans s2
    have s12 := s1.trans (.of s2)
    refine ⟨_, rfl, x, CRd, dx, _, rfl, s2 _ _ hx1, G.clR, G.rBl, (by show 1 < 1000; decide), ?_⟩
    rw [show putF "blocks" (.ref D) (f1 sh) = f2 sh D from rfl]
    refine ⟨_, rfl, x, CRd, dx, _, rfl, upd_same, G.clR, G.rMa, (by show 2 < 1000; decide), ?_⟩
    show L2.Ends.nx _ _ (upd (upd H2 x (.ins CRd dx (f2 sh D))) x (.ins CRd dx (f3 sh D)))
    rw [upd2]
    have nDx : D ≠ x := fun z => by rw [z, hx1] at hD; cases hD
    have hx3 : (upd H2 x (.ins CRd dx (f3 sh D))) x = some (.ins CRd dx (f3 sh D)) := upd_same
    have s3 : SameX x H2 (upd H2 x (.ins CRd dx (f3 sh D))) := (SameX.of (Same.refl _)).put _
    have sF3 : Same F0 (upd H2 x (.ins CRd dx (f3 sh D))) := same_put sF2 _ fx
    have g3 : Same (cutM H2 [x, D]) (cutM (upd H2 x (.ins CRd dx (f3 sh D))) [x, D]) := by rw [cutM_put (by simp)]; exact Same.refl _
    have d3 : (upd H2 x (.ins CRd dx (f3 sh D))) D = some (.dK kvs) := by rw [upd_ne nDx]; exact d2
    have s13 := s12.trans s3
    generalize upd H2 x (.ins CRd dx (f3 sh D)) = H3 at *
    refine ⟨D, .dK kvs, d3, trivial, fun od => ?_⟩
    have hL : (upd H3 D (.frz od (.dK kvs))) D = some (.frz od (.dK kvs)) := upd_same
    have hxL : (upd H3 D (.frz od (.dK kvs))) x = some (.ins CRd dx (f3 sh D)) := by rw [upd_ne nDx.symm]; exact hx3
    have bk : ∀ {H' : Hp}, Same (upd H3 D (.frz od (.dK kvs))) H' → Same H3 (upd H' D (.dK kvs)) := fun s => unlock_same d3 s
    have lkv := env_len pe
    generalize upd H3 D (.frz od (.dK kvs)) = HL at *
    refine ⟨_, rfl, x, CRd, dx, _, _, rfl, hxL, G.clR, G.rBl, rfl, D, od, rfl, .inl ⟨kvs, hL, fun E2 hE => ?_⟩⟩
    refine dc_it walk_keys (fun i H' => Same HL H' ∧ ∃ ls : List Addr, ls.length = i ∧ ls.Nodup ∧ (∀ l ∈ ls, HL l = none ∧ H' l = some (.lst [])) ∧ H' E2 = some (.dK (topsK (bs.take i) ls))) ⟨same_new _ hE, [], rfl, List.nodup_nil, fun l m => (by cases m), upd_same⟩ (fun i H' _ z => z.1 _ _ hL) ?_ ?_
    · rintro i y Hz H4 hi ⟨s4, ls, ll, ndl, al, d4⟩ ⟨rfl, kk, xv, hkv, rfl⟩
      obtain ⟨b, hb2, rfl, _⟩ := env_at pe hkv
      have hib : i < bs.length := (List.getElem?_eq_some_iff.mp hb2).1
      have lt6 : (bs.take i).length = ls.length := by rw [List.length_take]; omega
      refine ⟨rfl, _, rfl, (by show 0 ≤ sizeLine; decide), fun l hl => ?_⟩
      have s5 : Same H4 (upd H4 l (.lst [])) := same_new _ hl
      have hl5 : (upd H4 l (.lst [])) l = some (.lst []) := upd_same
      have nlE : l ≠ E2 := fun z => by rw [z, d4] at hl; cases hl
      have nls : l ∉ ls := fun m => by rw [(al l m).2] at hl; cases hl
      have d5 := s5 _ _ d4
      generalize upd H4 l (.lst []) = H5 at *
      have nk : (Sum.inr b.1 : Key) ∉ (topsK (bs.take i) ls).map (·.1) := fun m => by
        rw [topsK_keys lt6.symm] at m
        obtain ⟨q, mq, eq⟩ := List.mem_map.mp m
        have e1 : q.1 = b.1 := Sum.inr.inj eq
        refine nodup_take' nd (i := i) (x := b.1) (by rw [List.getElem?_map, hb2]; rfl) ?_
        rw [← e1, ← List.map_take]
        exact List.mem_map.mpr ⟨q, mq, rfl⟩
      have ltk : (topsK (bs.take i) ls).length ≤ 6 := by
        unfold topsK
        rw [List.length_map, List.length_zip, List.length_take]
        omega
      refine ⟨_, Sum.inr b.1, rfl, d5, Nat.lt_of_le_of_lt ltk (by decide), ?_⟩
      rw [put_new nk]
      refine ⟨same_put (s4.trans s5) _ hE, ls ++ [l], by rw [List.length_append, ll]; rfl, List.nodup_append.mpr ⟨ndl, by simp, fun u mu w mw z => nls (by rw [List.mem_singleton] at mw; rw [← mw, ← z]; exact mu)⟩, fun u mu => ?_, ?_⟩
      · have nuE : u ≠ E2 := fun z => by
          rcases List.mem_append.mp mu with m | m
          · rw [z] at m
            rw [(al _ m).2] at d4
            cases d4
          · rw [List.mem_singleton] at m
            exact nlE (m.symm.trans z)
        rw [upd_ne nuE]
        rcases List.mem_append.mp mu with m | m
        · exact ⟨(al u m).1, s5 _ _ (al u m).2⟩
        · rw [List.mem_singleton] at m
          rw [m]
          exact ⟨s4.free hl, hl5⟩
      · rw [upd_same, List.take_add_one, hb2]
        unfold topsK
        rw [show (some b).toList = [b] from rfl, List.zip_append lt6, List.map_append]
        rfl
    rintro H4 ⟨s4, ls, ll, ndl, al, d4⟩
    rw [lkv, List.take_length] at d4
    have hx4 := s4 _ _ hxL
    have nEx : E2 ≠ x := fun z => by rw [z, hxL] at hE; cases hE
    have nED : E2 ≠ D := fun z => by rw [z, hL] at hE; cases hE
    refine ⟨_, rfl, x, CRd, dx, _, rfl, hx4, G.clR, G.rTo, (by show 3 < 1000; decide), ?_⟩
    have hL5 : (upd H4 x (.ins CRd dx (f4 sh D E2))) D = some (.frz od (.dK kvs)) := by rw [upd_ne nDx]; exact s4 _ _ hL
    refine ⟨hL5, ?_⟩
    have b4 := bk s4
    have comm : upd (upd H4 x (.ins CRd dx (f4 sh D E2))) D (.dK kvs) = upd (upd H4 D (.dK kvs)) x (.ins CRd dx (f4 sh D E2)) := funext fun a => by
      by_cases z : a = x
      · rw [z, upd_ne nDx.symm, upd_same, upd_same]
      · by_cases z2 : a = D
        · rw [z2, upd_same, upd_ne nDx, upd_same]
        · rw [upd_ne z2, upd_ne z, upd_ne z, upd_ne z2]
    show L2.Ends.nx _ _ (upd (upd H4 x (.ins CRd dx (f4 sh D E2))) D (.dK kvs))
    rw [comm]
    have hxc : (upd (upd H4 D (.dK kvs)) x (.ins CRd dx (f4 sh D E2))) x = some (.ins CRd dx (f4 sh D E2)) := upd_same
    have sc : SameX x H3 (upd (upd H4 D (.dK kvs)) x (.ins CRd dx (f4 sh D E2))) := (SameX.of b4).put _
    have hEc : (upd (upd H4 D (.dK kvs)) x (.ins CRd dx (f4 sh D E2))) E2 = some (.dK (topsK bs ls)) := by rw [upd_ne nEx, upd_ne nED]; exact d4
    have h3n : ∀ {a : Addr}, HL a = none → H3 a = none := fun {a} e => by
      cases q : H3 a with
      | none => rfl
      | some o => 
        have z := bk (Same.refl _) a o q
        by_cases y : a = D
        · rw [y, hL] at e
          cases e
        · rw [upd_ne y, e] at z
          cases z
    have hlc : ∀ l ∈ ls, H3 l = none ∧ (upd (upd H4 D (.dK kvs)) x (.ins CRd dx (f4 sh D E2))) l = some (.lst []) := fun l m => by
      obtain ⟨q1, q2⟩ := al l m
      refine ⟨h3n q1, ?_⟩
      rw [upd_ne (fun z => by rw [z, hx4] at q2; cases q2), upd_ne (fun z => by rw [z, s4 _ _ hL] at q2; cases q2)]
      exact q2
    have hE3 := h3n hE
    generalize upd (upd H4 D (.dK kvs)) x (.ins CRd dx (f4 sh D E2)) = Hc at *
    refine fun as has => ?_
    have nax : as ≠ x := fun z => by rw [z, hxc] at has; cases has
    refine ⟨_, rfl, x, CRd, dx, _, rfl, (by rw [upd_ne nax.symm]; exact hxc), G.clR, G.rAs, (by show 4 < 1000; decide), ?_⟩
    show Q .non (upd (upd Hc as (.dK [])) x (.ins CRd dx (rdF sh D E2 as 0)))
    have keep : ∀ a o, a ≠ x → H3 a = some o → cutM (upd (upd Hc as (.dK [])) x (.ins CRd dx (rdF sh D E2 as 0))) (x :: as :: ls) a = some o := fun a o n h => by
      have hc := sc a o n h
      have na : a ≠ as := fun z => by rw [z, has] at hc; cases hc
      have nl : a ∉ ls := fun m => by rw [(hlc a m).1] at h; cases h
      rw [cutM_in (by simp only [List.mem_cons, not_or]; exact ⟨n, na, nl⟩), upd_ne n, upd_ne na]
      exact hc
    have kF : Same F0 (cutM (upd (upd Hc as (.dK [])) x (.ins CRd dx (rdF sh D E2 as 0))) (x :: as :: ls)) := fun a o e => keep a o (fun z => by rw [z, fx] at e; cases e) (sF3 a o e)
    have kD : Same (cutM H3 [x, D]) (cutM (upd (upd Hc as (.dK [])) x (.ins CRd dx (rdF sh D E2 as 0))) (x :: as :: ls)) := fun a o e => by
      have n : a ∉ [x, D] := fun m => by rw [cutM_at m] at e; cases e
      rw [cutM_in n] at e
      exact keep a o (fun z => n (by rw [z]; exact List.mem_cons_self)) e
    have nEa : E2 ≠ as := fun z => by rw [← z, hEc] at has; cases has
    have nEl : E2 ∉ ls := fun m => by have z := (hlc _ m).2; rw [hEc] at z; cases z
    refine k ⟨x, dx, sh, D, E2, as, ls⟩ _ rfl (fun a m => ?_) (s13.trans (sc.trans ((SameX.of (same_new _ has)).put _))) ⟨upd_same, shA.same kF, ⟨kvs, keep D _ nDx d3, envP_same kD (envP_same g3 pe)⟩, ?_, by rw [upd_ne nax, upd_same]; rfl, ll.trans lkv, ndl, fun i b l h1 h2 => ?_, nd, l6, Nat.zero_le _, fun s => Nat.zero_le _, Nat.zero_le _⟩
    · rcases List.mem_cons.mp m with z | m
      · rw [z]
        exact fx
      · rcases List.mem_cons.mp m with z | m
        · rw [z]
          cases q : F0 as with
          | none => rfl
          | some o =>
            have y := sc as o nax (sF3 _ _ q)
            rw [has] at y
            cases y
        · exact sF3.free (hlc a m).1
    · show cutM _ (x :: as :: ls) E2 = _
      rw [cutM_in (by simp only [List.mem_cons, not_or]; exact ⟨nEx, nEa, nEl⟩), upd_ne nEx, upd_ne nEa]
      exact hEc
    · have ml := List.mem_of_getElem? h2
      have z := (hlc l ml).2
      rw [upd_ne (fun y => by rw [y, hxc] at z; cases z), upd_ne (fun y => by rw [y, has] at z; cases z)]
      exact z
end
end Fm

/-! ## K08ZE -/
set_option Elab.async false
set_option maxRecDepth 100000
set_option maxHeartbeats 8000000
namespace Fm
open PySem L2
def namesD (d : PyData) : List Str := (partsD d).map nameD
/-- a block, read -/
def blkE (d : PyData) : Str × List Str × List Str := (nameD (pt d 0), namesD (pt d 1), namesD (pt d 2))
def envB (d : PyData) : Env := (partsD d).map blkE
/-- the whole body is read -/
def bodyRead (ts : List Tab) (bs : Env) (d : PyData) : Except (List Nat) RS := if rowD3 1 12 d = true then readL (readS ts bs 8 []) [] 0 rs0 (partsD d) else .error []
theorem names_tupd {lo hi : Int} {d : PyData} (h : nmsD lo hi d = true) : tupd d = .tuple ((namesD d).map PyData.str) := by
  have h0 := nms_row h
  obtain ⟨e, _, _⟩ := rowD3_row h0
  rw [tupd_parts e]
  unfold nmsD at h
  rw [Bool.and_eq_true, Bool.and_eq_true] at h
  have al := h.1.2
  unfold namesD
  rw [List.map_map]
  refine congrArg PyData.tuple (List.map_congr_left fun c mc => ?_)
  obtain ⟨s, rfl, _⟩ := nmD_str (List.all_eq_true.mp al c mc)
  rfl
theorem blk_tupd {d : PyData} (h : blkD d = true) : tupd d = blkT (blkE d) := by
  have h3 : tupD 3 d = true := by
    cases q : tupD 3 d with
    | true => rfl
    | false => rw [blk_no3 q] at h; cases h
  obtain ⟨a, b, c, rfl⟩ := tup3 h3
  have h : (isNmD a && ((nmsD 0 3 b && nmsD 1 3 c) && nmsD 1 6 (.list (partsD b ++ partsD c)))) = true := h
  rw [Bool.and_eq_true, Bool.and_eq_true, Bool.and_eq_true] at h
  obtain ⟨s, rfl, _⟩ := nmD_str h.1
  show PyData.tuple [.str s, tupd b, tupd c] = _
  rw [names_tupd h.2.1.1, names_tupd h.2.1.2]
  rfl
theorem firstB_none : ∀ {ds : List PyData} {names : List Str}, firstBadB names ds = none → (∀ d ∈ ds, blkD d = true) ∧ (ds.map nameT).Nodup ∧ ∀ d ∈ ds, nameT d ∉ names
  | [], _, _ => ⟨fun _ m => (by cases m), List.nodup_nil, fun _ m => (by cases m)⟩
  | d :: ds, names, h => by
    by_cases c : blkD d = true ∧ nameT d ∉ names
    · rw [firstB_ok c.1 c.2] at h
      obtain ⟨q1, q2, q3⟩ := firstB_none (Option.map_eq_none_iff.mp h)
      refine ⟨fun u mu => ?_, ?_, fun u mu => ?_⟩
      · rcases List.mem_cons.mp mu with z | z
        · rw [z]; exact c.1
        · exact q1 u z
      · rw [List.map_cons, List.nodup_cons]
        refine ⟨fun m => ?_, q2⟩
        obtain ⟨u, mu, e⟩ := List.mem_map.mp m
        exact q3 u mu (List.mem_append_right _ (by rw [e]; exact List.mem_cons_self))
      · rcases List.mem_cons.mp mu with z | z
        · rw [z]; exact c.2
        · exact fun m => q3 u z (List.mem_append_left _ m)
    · rw [firstB_bad c] at h
      cases h
theorem blk_nameT {d : PyData} (h : blkD d = true) : (blkE d).1 = nameT d := by
  have h3 : tupD 3 d = true := by
    cases q : tupD 3 d with
    | true => rfl
    | false => rw [blk_no3 q] at h; cases h
  obtain ⟨a, b, c, rfl⟩ := tup3 h3
  have h : (isNmD a && _) = true := h
  rw [Bool.and_eq_true] at h
  obtain ⟨s, rfl, _⟩ := nmD_str h.1
  rfl
theorem blocks_ok {ts : List Tab} {d : PyData} (h : blocksBad ts d = none) : tupd d = .tuple ((envB d).map blkT) ∧ ((envB d).map (·.1)).Nodup ∧ (envB d).length ≤ 6 := by
  unfold blocksBad at h
  by_cases e : rowD3 1 6 d = true
  · rw [if_pos e] at h
    obtain ⟨q1, q2, _⟩ := firstB_none (Option.map_eq_none_iff.mp h)
    obtain ⟨er, _, l6⟩ := rowD3_row e
    refine ⟨?_, ?_, ?_⟩
    · rw [tupd_parts er]
      unfold envB
      rw [List.map_map]
      exact congrArg PyData.tuple (List.map_congr_left fun c mc => blk_tupd (q1 c mc))
    · unfold envB
      rw [List.map_map]
      have e9 : (partsD d).map ((fun x : Str × List Str × List Str => x.1) ∘ blkE) = (partsD d).map nameT := List.map_congr_left fun c mc => blk_nameT (q1 c mc)
      rw [e9]
      exact q2
    · unfold envB
      rw [List.length_map]
      omega
  · rw [if_neg e] at h
    cases h
theorem cut_put {H : Hp} {x : Addr} {o : HO} : cut (upd H x o) x = cut H x := funext fun a => by
  by_cases z : a = x
  · rw [z, cut_at, cut_at]
  · rw [cut_ne z, cut_ne z, upd_ne z]
theorem tyD_mem (d : PyData) : tyD d ∈ ["NoneType", "bool", "int", "str", "list", "tuple", "dict"] := by cases d <;> simp [tyD]
section
variable {P : Program} {w : World} {K : PySem.W.Frag} {mg : Str → Option Value} {base : Heap} {CS CG CRd PD CN CBP CBB CBS : Addr}
def pgF (sh : Addr) (b y : V) : List (Str × V) := [("shape", .ref sh), ("blocks", b), ("body", y)]
def pgF1 (sh : Addr) : List (Str × V) := [("shape", .ref sh)]
def pgF2 (sh : Addr) (b : V) : List (Str × V) := [("shape", .ref sh), ("blocks", b)]
def spPgInit (CS CG CBS CBB CBP : Addr) : Sp := fun vs H Q E => ∃ (x dx : Addr) (sv bv yv : V) (dB dY : PyData), vs = [.ref x, sv, bv, yv] ∧ H x = some (.ins CG dx []) ∧ Tp (cut H x) bv dB ∧ Tp (cut H x) yv dY ∧ dep dB < 40 ∧ dep dY < 40 ∧ siz dB ≤ 40000 ∧ siz dY ≤ 40000 ∧ mst dB ≤ 100000 ∧ mst dY ≤ 100000 ∧
  ((∃ d, Tp (cut H x) sv d ∧ ∀ dd H', Same H H' → H dd = none → H' dd = some (.xd [("value", sv)]) → E (.ref CBS) (some dd) H') ∨
   ∃ sh ts, sv = .ref sh ∧ ShT CS (cut H x) sh (tsD ts) ∧ TsOk ts ∧ (∀ i, blocksBad ts dB = some i → ErrAt H i (E (.ref CBB))) ∧
    (blocksBad ts dB = none → (∀ p, bodyRead ts (envB dB) dY = .error p → ∀ (dd pp : Addr) (H' : Hp), SameX x H H' → H dd = none → H' pp = some (.tup (natL p)) → H' dd = some (.xd [("value", .ref pp)]) → E (.ref CBP) (some dd) H') ∧
      ∀ st, bodyRead ts (envB dB) dY = .ok st → ∀ (b y : V) (H' : Hp), SameX x H H' → H' x = some (.ins CG dx (pgF sh b y)) → Tp (cut H' x) b (tupd dB) → Tp (cut H' x) y (tupd dY) → Q .non H'))
abbrev s_Program_init : Stmt := inClass (topS 36) 0
abbrev sc_Program_initN : List Str := ["self", "shape", "blocks", "body", "reader"]
abbrev ps_Program_init : List Str := ["self", "shape", "blocks", "body"]
theorem sc_Program_init : FnScope sc_Program_initN ps_Program_init (defScope s_Program_init) := ⟨rfl, rfl, rfl, by decide +kernel, rfl, by decide +kernel, by decide +kernel⟩
theorem ok_Program_init {f : Addr} {fd : FuncData} (F : Fun K "__init__" "Program.__init__" s_Program_init f fd) (T : Txt K mg CS) (G : TxG K w mg CG CRd PD) (X_BadStore : Xf P w K mg base "BadStore" CBS "value") (X_BadProgram : Xf P w K mg base "BadProgram" CBP "value") (D_is_row : Df P w K mg base "is_row" 1 ps_is_row (spIsRow K))
    (D_check_blocks : DfX P w K mg base "check_blocks" 4 ps_check_blocks (spChkB CS CBB)) (D_as_tuples : Df P w K mg base "as_tuples" 40 ps_as_tuples (spTup 40)) (D_Reader : Dc P w K mg base "Reader" CRd 1 ps_Reader_init (spRdInit CS CRd)) (D_read_body : DmX P w K mg base CRd "read_body" 25 ps_Reader_read_body (spReadB CS CRd CBP 8)) :
    FnOk P w K mg base (L2.CX P w) 42 f fd ps_Program_init (spPgInit CS CG CBS CBB CBP) := by
  refine F.okX sc_Program_init (fun vs H Q E h => ?_) (fun cdv A outer s H vs Q E hr h => ?_)
  · obtain ⟨_, _, _, _, _, _, _, rfl, _⟩ := h
    rfl
  · obtain ⟨x, dx, sv, bv, yv, dB, dY, rfl, hx, hb, hy, pb, py, zb, zy, mb, my, alt⟩ := h
    refine ⟨_, (pss_cons (ps_if (pt_not (pt_val (pe_callB call_isi (by rfl) T.n_isinstance (by decide +kernel) (pa_cons (pv 1) (pa_cons (pe_glob (v := .ref CS) rfl T.g_Shape rfl) pa_nil)))))
    (pss_one (ps_rE X_BadStore (hr.mono (by decide)) (takes_of rfl rfl rfl rfl) (pv 1)))
    pss_nil)
  (pss_cons (ps_expr (pe_dE D_check_blocks (hr.mono (by decide)) (takes_of rfl rfl rfl rfl) (pa_cons (pv 1) (pa_cons (pv 2) pa_nil))))
  (pss_cons (ps_if (pt_not (pt_val (pe_d D_is_row (hr.mono (by decide)) (pa_cons (pv 3) (pa_cons pe_int (pa_cons (pe_gI T.g_MOST_TOP_STATEMENTS) pa_nil))))))
    (pss_one (ps_rG X_BadProgram (hr.mono (by decide)) (takes_of rfl rfl rfl rfl) (pe_tup pa_nil)))
    pss_nil)
  (pss_cons (ps_fld (pv 0) (pv 1) rfl)
  (pss_cons (ps_fld (pv 0) (pe_d D_as_tuples (hr.mono (by decide)) (pa_cons (pv 2) pa_nil)) rfl)
  (pss_cons (ps_set (i := 4) sc_Program_init.nd rfl (Or.inl rfl) (pe_dc D_Reader (hr.mono (by decide)) (pa_cons (pv 1) (pa_cons (pe_fld (pv 0) rfl) pa_nil))))
  (pss_cons (ps_expr (pe_dmE (pv 4) G.clR D_read_body (hr.mono (by decide)) (takes_of rfl rfl rfl rfl) (pa_cons (pv 3) (pa_cons (pe_tup pa_nil) (pa_cons pe_dnewK pa_nil)))))
  (pss_one (ps_fld (pv 0) (pe_d D_as_tuples (hr.mono (by decide)) (pa_cons (pv 3) pa_nil)) rfl))))))))), ?_⟩
    have sF : Same (cut H x) H := cut_sub
    obtain ⟨Tb, nob⟩ := X_BadStore.oex
    obtain ⟨Tp_, nop⟩ := X_BadProgram.oex
    rcases alt with ⟨d, hd, kB⟩ | ⟨sh, ts, rfl, shA, tok, kBlk, kOk⟩
    · exact ⟨_, rfl, _, _, _, _, _, rfl, .own _, (hd.same sF).ty (K := K), T.c_isi _ (tyD_mem d), _, rfl, iteT ⟨_, rfl, fun dd hdd => kB dd _ (same_new _ hdd) hdd upd_same⟩⟩
    have kk : PySem.W.kitOne K (.ref CS) (.ref CS) = some true := by
      show (if (Value.ref CS == Value.ref CS) = true then some true else _) = some true
      rw [if_pos (beq_self_eq_true _)]
    obtain ⟨dsh, tv, hsh, dtv⟩ := id shA
    refine ⟨_, rfl, _, _, _, _, _, rfl, .own _, .base (.ins (sF _ _ hsh) T.cl T.c_cls T.c_get T.c_tak T.c_mro), kk, _, rfl, iteF ?_⟩
    refine ⟨_, rfl, _, rfl, sh, bv, dB, ts, rfl, shA.same sF, tok, hb.same sF, zb, mb, fun enone H1 s1 => ?_, kBlk⟩
    obtain ⟨kP, kQ⟩ := kOk enone
    obtain ⟨eT, ndB, l6⟩ := blocks_ok enone
    refine ⟨_, rfl, yv, dY, 1, 12, rfl, hy.same (sF.trans s1), fun H2 s2 => ⟨_, rfl, ?_⟩⟩
    have s12 := s1.trans s2
    cases er : rowD3 1 12 dY with
    | false =>
      have eB : bodyRead ts (envB dB) dY = .error [] := by unfold bodyRead; rw [er]; rfl
      refine iteT ⟨(by show 0 ≤ sizeLine; decide), fun tp htp => ⟨(by show 1 ≤ 1000; decide), fun a ha => init_read (v := .ref tp) (Q := fun cls d H' => E cls d H') Tp_ nop ha fun dd hdd => ?_⟩⟩
      have ne : tp ≠ dd := fun z => by rw [← z, upd_same] at hdd; cases hdd
      refine kP [] eB dd tp _ (.of ((s12.trans (same_new _ htp)).trans (same_new _ hdd))) ?_ ?_ upd_same
      · exact (s12.trans (same_new _ htp)).free hdd
      · rw [upd_ne ne, upd_same]
        rfl
    | true =>
      have eB : bodyRead ts (envB dB) dY = readL (readS ts (envB dB) 8 []) [] 0 rs0 (partsD dY) := by unfold bodyRead; rw [er]; rfl
      rw [eB] at kP kQ
      obtain ⟨eY, _, _⟩ := rowD3_row er
      refine iteF ⟨_, rfl, _, rfl, x, CG, dx, _, rfl, s12 _ _ hx, G.clG, G.gSh, (by show 0 < 1000; decide), ?_⟩
      show L2.Ends.nx _ _ (upd H2 x (.ins CG dx (pgF1 sh)))
      have hx3 : (upd H2 x (.ins CG dx (pgF1 sh))) x = some (.ins CG dx (pgF1 sh)) := upd_same
      have s3 : SameX x H (upd H2 x (.ins CG dx (pgF1 sh))) := (SameX.of s12).put _
      generalize upd H2 x (.ins CG dx (pgF1 sh)) = H3 at *
      refine ⟨_, rfl, cut H3 x, bv, dB, rfl, cut_sub, hb.same s3.cut, pb, by omega, fun bv' F4 H4 g4 hb4 => ?_⟩
      obtain ⟨f4x, hx4⟩ := g4.hh _ _ cut_at hx3
      have s34 : Same H3 H4 := g4.same cut_sub
      refine ⟨_, rfl, x, CG, dx, _, rfl, hx4, G.clG, G.gBl, (by show 1 < 1000; decide), ?_⟩
      show L2.Ends.nx _ _ (upd H4 x (.ins CG dx (pgF2 sh bv')))
      have hx5 : (upd H4 x (.ins CG dx (pgF2 sh bv'))) x = some (.ins CG dx (pgF2 sh bv')) := upd_same
      have s5 : SameX x H (upd H4 x (.ins CG dx (pgF2 sh bv'))) := (s3.trans (.of s34)).put _
      have f45 : Same F4 (cut (upd H4 x (.ins CG dx (pgF2 sh bv'))) x) := by rw [cut_put]; exact same_cut g4.fh f4x
      generalize upd H4 x (.ins CG dx (pgF2 sh bv')) = H5 at *
      have hb5 : Tp H5 bv' (.tuple ((envB dB).map blkT)) := by rw [← eT]; exact hb4.same (f45.trans cut_sub)
      obtain ⟨bp, _, rfl, _, _⟩ := hb5.tuple
      refine ⟨_, rfl, _, rfl, x, CG, dx, _, _, rfl, hx5, G.clG, G.gBl, rfl, fun rx rdx nrx nrd nre => ?_⟩
      have sN : Same H5 (upd (upd H5 rdx (.own rx)) rx (.ins CRd rdx [])) := same_put (same_new _ nrd) _ nrx
      refine ⟨H5, rx, rdx, sh, bp, ts, envB dB, rfl, upd_same, sN, nrx, shA.same (s5.cut.trans cut_sub), hb5, ndB, l6, fun r H6 er6 fr6 s6 R6 => ⟨rfl, ?_⟩⟩
      subst er6
      have s56 : Same H5 H6 := fun a o e => s6 a o (fun z => by rw [z, nrx] at e; cases e) (sN a o e)
      refine ⟨_, rfl, r.x, r.dx, _, rfl, R6.hx, rfl, _, rfl, (by show 0 ≤ sizeLine; decide), fun tp htp D hD => ?_⟩
      have s67 : Same H6 (upd (upd H6 tp (.tup [])) D (.dK [])) := (same_new _ htp).trans (same_new _ hD)
      have ntD : tp ≠ D := fun z => by rw [← z, upd_same] at hD; cases hD
      have htp7 : (upd (upd H6 tp (.tup [])) D (.dK [])) tp = some (.tup []) := by rw [upd_ne ntD, upd_same]
      have hD7 : (upd (upd H6 tp (.tup [])) D (.dK [])) D = some (.dK []) := upd_same
      have hD6 : H6 D = none := (same_new _ htp).free hD
      have n1 := R6.free htp
      have n2 := R6.free hD6
      generalize upd (upd H6 tp (.tup [])) D (.dK []) = H7 at *
      have s57 := s56.trans s67
      have toM : Same H5 (cutM H7 r.M) := fun a o e => by
        rw [cutM_in (fun m => by rw [fr6 a m] at e; cases e)]
        exact s57 a o e
      have h5x : ∀ a, H5 a = none → H a = none := fun a e => by
        cases q : H a with
        | none => rfl
        | some o =>
          by_cases z : a = x
          · rw [z, hx5] at e
            cases e
          · rw [s5 a o z q] at e
            cases e
      refine ⟨r, yv, tp, D, dY, ts, envB dB, [], rs0, [], rfl, R6.same s67, tok, ((hy.same s5.cut).same cut_sub).same toM, ⟨[], by rw [cutM_in n2]; exact hD7, .nil⟩, by rw [cutM_in n1]; exact htp7, rfl, Nat.le_refl _, List.nodup_nil, Nat.zero_le _, eY, my, by omega, fun st' e8 H8 s8 R8 m8 => ?_, fun p e8 dd pp H8 s8 hd hp8 hd8 => ?_⟩
      · have s58 : Same H5 H8 := fun a o e => s8 a o (fun m => by rw [fr6 a m] at e; cases e) (s57 a o e)
        have hx8 := s58 _ _ hx5
        have sX8 := s5.trans (.of s58)
        refine ⟨_, rfl, cut H8 x, yv, dY, rfl, cut_sub, hy.same sX8.cut, py, by omega, fun y' F9 H9 g9 hy9 => ?_⟩
        obtain ⟨f9x, hx9⟩ := g9.hh _ _ cut_at hx8
        have s89 : Same H8 H9 := g9.same cut_sub
        refine ⟨_, rfl, x, CG, dx, _, rfl, hx9, G.clG, G.gBo, (by show 2 < 1000; decide), ?_⟩
        show Q .non (upd H9 x (.ins CG dx (pgF sh (.ref bp) y')))
        have sX9 := sX8.trans (.of s89)
        refine kQ st' e8 _ _ _ (sX9.put _) upd_same ?_ ?_
        · rw [cut_put]
          exact (hb4.same f45).same ((SameX.of s58).trans (.of s89)).cut
        · rw [cut_put]
          exact hy9.same (same_cut g9.fh f9x)
      · have s58 : Same H5 H8 := fun a o e => s8 a o (fun m => by rw [fr6 a m] at e; cases e) (s57 a o e)
        exact kP p e8 dd pp H8 (s5.trans (.of s58)) (h5x _ (s57.free hd)) (cutM_sub _ _ hp8) hd8
end
end Fm

/-! ## K08G -/
set_option Elab.async false
set_option maxRecDepth 100000
set_option maxHeartbeats 4000000
namespace Fm
open PySem L2
/-! ### what the law itself says of tables -/
section
variable {P : Program} {w : World} {K : PySem.W.Frag} {mg : Str → Option Value} {base : Heap} {CS CB : Addr}
def spRowL : Sp := fun vs H Q _ => ∃ (v : V) (d : PyData), vs = [v] ∧ Tp H v d ∧ ∀ H', Same H H' → Q (.bl (isRowD d)) H'
abbrev s_l_row : Stmt := topS 57
abbrev sc_l_rowN : List Str := ["_law_thing"]
abbrev ps_l_row : List Str := ["_law_thing"]
theorem sc_l_row : FnScope sc_l_rowN ps_l_row (defScope s_l_row) := ⟨rfl, rfl, rfl, by decide +kernel, rfl, by decide +kernel, by decide +kernel⟩
theorem ok_l_row {f : Addr} {fd : FuncData} (F : Fun K "_law_row" "_law_row" s_l_row f fd) (T : Txt K mg CS) : FnOk P w K mg base CX0 1 f fd ps_l_row spRowL := by
  refine F.ok sc_l_row (fun vs H Q E h => ?_) (fun cdv A outer s H vs Q E hr h => ?_)
  · obtain ⟨_, _, rfl, _⟩ := h
    rfl
  · obtain ⟨v, d, rfl, hv, k⟩ := h
    refine ⟨_, (pss_one (ps_ret (pe_callB call_isiT (by rfl) T.n_isinstance (by decide +kernel) (pa_cons (pv 0) (pa_cons (pe_tup (pa_cons (pe_bltn (v := .ty "list") (by rfl) T.n_list (by decide +kernel) rfl) (pa_cons (pe_bltn (v := .ty "tuple") (by rfl) T.n_tuple (by decide +kernel) rfl) pa_nil))) pa_nil))))), ?_⟩
    refine ⟨_, rfl, (by show 2 ≤ sizeLine; decide), fun tp htp => ?_⟩
    have s1 : Same H (upd H tp (.tup [.ty "list", .ty "tuple"])) := same_new _ htp
    exact ⟨_, tp, _, _, _, _, rfl, upd_same, clsLT, (hv.same s1).ty, kitAny_row, k _ s1⟩
def spWord : Sp := fun vs H Q _ => ∃ (v : V) (d : PyData), vs = [v] ∧ Tp H v d ∧ mst d ≤ 100000 ∧ Q (.bl (isNmD d)) H
abbrev s_l_word : Stmt := topS 59
abbrev sc_l_wordN : List Str := ["_law_thing", "_law_letter"]
abbrev ps_l_word : List Str := ["_law_thing"]
theorem sc_l_word : FnScope sc_l_wordN ps_l_word (defScope s_l_word) := ⟨rfl, rfl, rfl, by decide +kernel, rfl, by decide +kernel, by decide +kernel⟩
theorem ok_l_word {f : Addr} {fd : FuncData} (F : Fun K "_law_word" "_law_word" s_l_word f fd) (T : Txt K mg CS) : FnOk P w K mg base CX0 1 f fd ps_l_word spWord := by
  refine F.ok sc_l_word (fun vs H Q E h => ?_) (fun cdv A outer s H vs Q E hr h => ?_)
  · obtain ⟨_, _, rfl, _⟩ := h
    rfl
  · obtain ⟨v, d, rfl, hv, hm, k⟩ := h
    refine ⟨_, (pss_cons (ps_if (PW.pt (pw_or (pt_not (pt_val (pe_callB call_isi (by rfl) T.n_isinstance (by decide +kernel) (pa_cons (pv 0) (pa_cons (pe_bltn (v := .ty "str") (by rfl) T.n_str (by decide +kernel) rfl) pa_nil))))) (pw_or (pt_cmpR op_lt (pe_callB call_len_str (by rfl) T.n_len (by decide +kernel) (pa_cons (pv 0) pa_nil)) pe_int (nomark _)) (pw_or1 (pt_cmpR op_gt (pe_callB call_len_str (by rfl) T.n_len (by decide +kernel) (pa_cons (pv 0) pa_nil)) pe_int (nomark _))))))
    (pss_one (ps_ret pe_bl))
    pss_nil)
  (pss_cons (ps_for PassesOwn.never rfl (pi_str (pv 0)) (pg_name (i := 1) sc_l_word.nd rfl (Or.inl rfl))
    (pss_one (ps_if (pt_cmpR op_notIn_sign (pv 1) pe_str (by rfl))
      (pss_one (ps_ret pe_bl))
      pss_nil)))
  (pss_one (ps_ret pe_bl)))), ?_⟩
    refine ⟨_, rfl, _, _, _, _, _, rfl, .ty _, hv.ty, kit_ty (kit_d (by simp)), _, rfl, ?_⟩
    cases d with
    | none => exact iteT (iteT k)
    | bool _ => exact iteT (iteT k)
    | int _ => exact iteT (iteT k)
    | list _ => exact iteT (iteT k)
    | tuple _ => exact iteT (iteT k)
    | dict _ => exact iteT (iteT k)
    | str z =>
      obtain rfl := hv.strI
      have hz : z.length ≤ 100000 := hm
      have hz' : z.length ≤ sizeLine := Nat.le_trans hz (by decide)
      have k2 : Q (.bl (isNm z)) H := k
      refine iteF ?_
      refine ⟨_, rfl, _, rfl, hz', _, _, rfl, rfl, _, rfl, ifd (fun h1 => iteT ?_) fun h1 => ?_⟩
      · have e : isNm z = false := by
          unfold isNm
          rw [decide_eq_false (show ¬ 1 ≤ z.length by omega)]
          rfl
        rw [e] at k2
        exact k2
      refine ⟨_, rfl, _, rfl, hz', _, _, rfl, rfl, _, rfl, ifd (fun h2 => ?_) fun h2 => ?_⟩
      · have e : isNm z = false := by
          unfold isNm
          rw [decide_eq_false (show ¬ z.length ≤ 8 by omega), Bool.and_false]
          rfl
        rw [e] at k2
        exact k2
      have e0 : isNm z = z.cps.toList.all fun c => decide (c ∈ letters.cps.toList) := by
        unfold isNm
        rw [decide_eq_true (show 1 ≤ z.length by omega), decide_eq_true (show z.length ≤ 8 by omega)]
        simp only [letters_mem]
        rfl
      refine ⟨_, rfl, z, rfl, ?_⟩
      refine for_it (walk_str (z := z)) (fun i σ H' => H' = H ∧ ∃ v1, σ = [some (.str z), v1] ∧ ∀ c ∈ z.cps.toList.take i, c ∈ letters.cps.toList) ⟨rfl, _, rfl, fun _ m => by cases m⟩ (fun _ _ _ _ _ => trivial) ?_ ?_
      · rintro i x σ H2 H3 hi ⟨rfl, v1, rfl, inv⟩ ⟨rfl, c, hc, rfl⟩
        refine ⟨_, rfl, c, letters, rfl, rfl, _, rfl, ifn (fun no => ?_) fun yes => ⟨rfl, _, rfl, fun x m => ?_⟩⟩
        · have e : isNm z = false := by
            rw [e0, List.all_eq_false]
            exact ⟨c, List.mem_of_getElem? (by simpa using hc), by rw [decide_eq_false no]; exact Bool.false_ne_true⟩
          rw [e] at k2
          exact k2
        · rw [List.take_add_one, show z.cps.toList[i]? = some c by simpa using hc] at m
          rcases List.mem_append.mp m with m | m
          · exact inv x m
          · have q : x = c := by simpa using m
            rw [q]
            exact yes
      · rintro σ H2 ⟨rfl, v1, rfl, inv⟩
        have e : isNm z = true := by
          rw [e0, List.all_eq_true]
          intro c m
          exact decide_eq_true (inv c (by rw [← Array.length_toList, List.take_length]; exact m))
        rw [e] at k2
        exact k2
/-- the front of a row -/
theorem front_tree {H : Hp} {v : V} {d : PyData} {k : Nat} {Q : VK} (hv : Tp H v d) (hr : isRowD d = true) (hk : k ≤ (partsD d).length) (q : ∀ a ys H', Same H H' → Rw H' a ys → TpAll H' ys ((partsD d).take k) → Q (.ref a) H') : rSlL K v none (some (k : Int)) H Q ∨ rSlA K v none (some (k : Int)) H Q := by
  refine sl_tree (Same.refl _) hv hr fun u F' H' g t => ?_
  rw [HT.sIx_none, HT.sIx_nat, Nat.min_eq_left hk, List.drop_zero, Nat.sub_zero] at t
  obtain ⟨a, ys, rfl, hx, ha⟩ := (t.same g.fh).row like_row.1
  rw [like_row.2] at ha
  exact q a ys H' (g.ff.trans g.fh) hx ha
theorem all_strs {H : Hp} : ∀ {ds : List PyData} {ys : List V}, TpAll H ys ds → ds.all isNmD = true → ys = (strsD ds).map V.str
  | [], _, h, _ => by cases h; rfl
  | d :: ds, _, h, e => by
    rw [List.all_cons, Bool.and_eq_true] at e
    cases h with
    | cons h1 h2 =>
      cases d with
      | str s =>
        rw [h1.strI, all_strs h2 e.2]
        rfl
      | _ => cases e.1
theorem strs_snoc : ∀ (ds : List PyData) (s : Str), strsD (ds ++ [.str s]) = strsD ds ++ [s]
  | [], s => rfl
  | .none :: ds, s => strs_snoc ds s
  | .bool _ :: ds, s => strs_snoc ds s
  | .int _ :: ds, s => strs_snoc ds s
  | .list _ :: ds, s => strs_snoc ds s
  | .tuple _ :: ds, s => strs_snoc ds s
  | .dict _ :: ds, s => strs_snoc ds s
  | .str x :: ds, s => congrArg (x :: ·) (strs_snoc ds s)
theorem strs_take {ds : List PyData} {i : Nat} (h : (strsD ds).Nodup) : (strsD (ds.take i)).Nodup := by
  have app : ∀ xs ys : List PyData, strsD (xs ++ ys) = strsD xs ++ strsD ys := fun xs ys => by
    induction xs with
    | nil => rfl
    | cons x xs ih => cases x <;> first | exact ih | exact congrArg (_ :: ·) ih
  have z := app (ds.take i) (ds.drop i)
  rw [List.take_append_drop] at z
  rw [z] at h
  exact (List.nodup_append.mp h).1
def spWords : Sp := fun vs H Q _ => ∃ (v : V) (d : PyData) (lo hi : Int), vs = [v, .int lo, .int hi] ∧ Tp H v d ∧ siz d ≤ 100000 ∧ mst d ≤ 100000 ∧ ∀ H', Same H H' → Q (.bl (nmsD lo hi d)) H'
abbrev s_l_words : Stmt := topS 60
abbrev sc_l_wordsN : List Str := ["_law_thing", "_law_least", "_law_most", "_law_k"]
abbrev ps_l_words : List Str := ["_law_thing", "_law_least", "_law_most"]
theorem sc_l_words : FnScope sc_l_wordsN ps_l_words (defScope s_l_words) := ⟨rfl, rfl, rfl, by decide +kernel, rfl, by decide +kernel, by decide +kernel⟩
theorem ok_l_words {f : Addr} {fd : FuncData} (F : Fun K "_law_words" "_law_words" s_l_words f fd) (T : Txt K mg CS) (D_l_row : Df P w K mg base "_law_row" 1 ps_l_row spRowL) (D_l_word : Df P w K mg base "_law_word" 1 ps_l_word spWord) : FnOk P w K mg base CX0 2 f fd ps_l_words spWords := by
  refine F.ok sc_l_words (fun vs H Q E h => ?_) (fun cdv A outer s H vs Q E hr h => ?_)
  · obtain ⟨_, _, _, _, rfl, _⟩ := h
    rfl
  · obtain ⟨v, d, lo, hi, rfl, hv, hz, hm, k⟩ := h
    refine ⟨_, (pss_cons (ps_if (PW.pt (pw_or (pt_not (pt_val (pe_d D_l_row (hr.mono (by decide)) (pa_cons (pv 0) pa_nil)))) (pw_or (pt_cmpR op_lt (pe_callB call_len_seq (by rfl) T.n_len (by decide +kernel) (pa_cons (pv 0) pa_nil)) (pv 1) (nomark _)) (pw_or1 (pt_cmpR op_gt (pe_callB call_len_seq (by rfl) T.n_len (by decide +kernel) (pa_cons (pv 0) pa_nil)) (pv 2) (nomark _))))))
    (pss_one (ps_ret pe_bl))
    pss_nil)
  (pss_cons (ps_for PassesOwn.never rfl (pi_range1 (by rfl) T.n_range (pa_cons (pe_callB call_len_seq (by rfl) T.n_len (by decide +kernel) (pa_cons (pv 0) pa_nil)) pa_nil)) (pg_name (i := 3) sc_l_words.nd rfl (Or.inl rfl))
    (pss_one (ps_if (PW.pt (pw_or (pt_not (pt_val (pe_d D_l_word (hr.mono (by decide)) (pa_cons (pe_ix (ixK_seq (K := K)) (pv 0) (pv 3) (fun _ _ => rfl)) pa_nil)))) (pw_or1 (pt_cmpR op_in_seq (pe_ix (ixK_seq (K := K)) (pv 0) (pv 3) (fun _ _ => rfl)) (pe_slice sl_any (pv 0) po_none (po_some (pv 3))) (by rfl)))))
      (pss_one (ps_ret pe_bl))
      pss_nil)))
  (pss_one (ps_ret pe_bl)))), ?_⟩
    refine ⟨_, rfl, v, d, rfl, hv, fun H1 s1 => ⟨_, rfl, ?_⟩⟩
    have no : ∀ {H'}, Same H H' → nmsD lo hi d = false → Q (.bl false) H' := fun s e => by
      have q := k _ s
      rw [e] at q
      exact q
    have cut3 : rowD3 lo hi d = false → nmsD lo hi d = false := fun e => by
      unfold nmsD
      rw [e]
      rfl
    cases er : isRowD d with
    | false => exact iteT (iteT (no s1 (cut3 (by unfold rowD3; rw [er]; rfl))))
    | true =>
      obtain ⟨a, xs, rfl, hx, ha⟩ := (hv.same s1).row er
      have lx := ha.len
      refine iteF ?_
      refine ⟨_, rfl, a, xs, rfl, rw_sq hx, _, rfl, _, _, rfl, rfl, _, rfl, ifd (fun h1 => iteT (no s1 (cut3 ?_))) fun h1 => ?_⟩
      · unfold rowD3
        rw [← lx, decide_eq_false (show ¬ lo ≤ (xs.length : Int) by omega), Bool.and_false]
        rfl
      refine ⟨_, rfl, a, xs, rfl, rw_sq hx, _, rfl, _, _, rfl, rfl, _, rfl, ifd (fun h2 => no s1 (cut3 ?_)) fun h2 => ?_⟩
      · unfold rowD3
        rw [← lx, decide_eq_false (show ¬ (xs.length : Int) ≤ hi by omega), Bool.and_false]
      have e3 : rowD3 lo hi d = true := by
        unfold rowD3
        rw [er, ← lx, decide_eq_true (show lo ≤ (xs.length : Int) by omega), decide_eq_true (show (xs.length : Int) ≤ hi by omega)]
        rfl
      have ls := siz_len (partsD d)
      rw [siz_row er] at hz
      rw [mst_row er] at hm
      refine ⟨_, rfl, a, xs, rfl, rw_sq hx, _, rfl, by omega, by omega, ?_⟩
      refine for_range (lo := 0) (n := xs.length) (fun i σ H' => ∃ v3, σ = [some (.ref a), some (.int lo), some (.int hi), v3] ∧ Same H1 H' ∧ ((partsD d).take i).all isNmD = true ∧ (strsD ((partsD d).take i)).Nodup) ⟨_, rfl, Same.refl _, rfl, .nil⟩ ?_ ?_
      · rintro i σ H2 hi2 ⟨v3, rfl, s2, al, nd⟩
        have hx1 : xs[i]? = some xs[i] := List.getElem?_eq_getElem hi2
        obtain ⟨c, hc, tc⟩ := ha.at hx1
        have mc := List.mem_of_getElem? hc
        have ym := mst_mem mc
        have ei : (0 : Int) + ((i : Nat) : Int) = (i : Nat) := Int.zero_add _
        refine ⟨_, rfl, _, rfl, ix_sq (rw_sq (hx.same s2)) (by rw [ei]; exact atI_nat hx1) ⟨_, c, rfl, tc.same s2, by omega, ⟨_, rfl, ?_⟩⟩⟩
        cases ec : isNmD c with
        | false =>
          refine iteT (iteT (no (s1.trans s2) ?_))
          unfold nmsD
          have z : (partsD d).all isNmD = false := List.all_eq_false.mpr ⟨c, mc, by rw [ec]; exact Bool.false_ne_true⟩
          rw [z, Bool.and_false, Bool.false_and]
        | true =>
          obtain ⟨s, rfl⟩ : ∃ s, c = .str s := by
            cases c with
            | str s => exact ⟨s, rfl⟩
            | _ => cases ec
          refine iteF ⟨_, rfl, _, rfl, ix_sq (rw_sq (hx.same s2)) (by rw [ei]; exact atI_nat hx1) ⟨_, rfl, _, rfl, _, rfl, ?_⟩⟩
          rw [ei]
          have hvv : Tp H2 (.ref a) d := hv.same (s1.trans s2)
          refine front_tree hvv er (by omega) fun p ys H3 s3 hp tp => ?_
          have ey := all_strs tp al
          rw [ey] at hp
          refine ⟨p, _, rfl, rw_sq hp, by rw [tc.strI]; rfl, flat_strs _, _, rfl, ?_⟩
          rw [tc.strI, inV_str]
          refine ifd (fun yes => no (s1.trans (s2.trans s3)) ?_) fun nin => ⟨_, rfl, s2.trans s3, ?_, ?_⟩
          · unfold nmsD
            have z : ¬ (strsD (partsD d)).Nodup := fun n => by
              have q := strs_take (i := i + 1) n
              rw [List.take_add_one, hc] at q
              have q2 : (strsD ((partsD d).take i ++ [PyData.str s])).Nodup := q
              rw [strs_snoc, List.nodup_append] at q2
              exact q2.2.2 s yes s (by simp) rfl
            rw [decide_eq_false z, Bool.and_false]
          · rw [List.take_add_one, hc, List.all_append, al]
            show (true && ([PyData.str s].all isNmD)) = true
            rw [List.all_cons, ec]
            rfl
          · rw [List.take_add_one, hc]
            show (strsD ((partsD d).take i ++ [PyData.str s])).Nodup
            rw [strs_snoc]
            exact nodup_snoc nd nin
      · rintro σ H2 ⟨v3, rfl, s2, al, nd⟩
        rw [lx, List.take_length] at al nd
        have e : nmsD lo hi d = true := by
          unfold nmsD
          rw [e3, al, decide_eq_true nd]
          rfl
        have q := k _ (s1.trans s2)
        rw [e] at q
        exact q
/-- an index, or nothing -/
def optV : Option Int → V
  | some i => .int i
  | none => .non
def spDue : Sp := fun vs H Q _ => ∃ (v : V) (d : PyData), vs = [v] ∧ Tp H v d ∧ siz d ≤ 100000 ∧ mst d ≤ 100000 ∧ ∀ H', Same H H' → Q (optV (shapeBad d)) H'
end
end Fm

/-! ## K08LA -/
set_option Elab.async false
set_option maxRecDepth 100000
set_option maxHeartbeats 8000000
namespace Fm
open PySem L2
def inI (lo hi : Int) : PyData → Bool
  | .int i => decide (lo ≤ i) && decide (i ≤ hi)
  | _ => false
section
variable {P : Program} {w : World} {K : PySem.W.Frag} {mg : Str → Option Value} {base : Heap} {CS CG CRd PD CN CBP CBB CBS : Addr}
def spWithinL : Sp := fun vs H Q _ => ∃ (v : V) (d : PyData) (lo hi : Int), vs = [v, .int lo, .int hi] ∧ Tp H v d ∧ Q (.bl (inI lo hi d)) H
abbrev s_l_within : Stmt := topS 58
abbrev sc_l_withinN : List Str := ["_law_thing", "_law_least", "_law_most"]
abbrev ps_l_within : List Str := ["_law_thing", "_law_least", "_law_most"]
theorem sc_l_within : FnScope sc_l_withinN ps_l_within (defScope s_l_within) := ⟨rfl, rfl, rfl, by decide +kernel, rfl, by decide +kernel, by decide +kernel⟩
theorem ok_l_within {f : Addr} {fd : FuncData} (F : Fun K "_law_within" "_law_within" s_l_within f fd) (T : Txt K mg CS) (D_l_integer : Df P w K mg base "_law_integer" 1 ps_l_integer spInteger) : FnOk P w K mg base CX0 2 f fd ps_l_within spWithinL := by
  refine F.ok sc_l_within (fun vs H Q E h => ?_) (fun cdv A outer s H vs Q E hr h => ?_)
  · obtain ⟨_, _, _, _, rfl, _⟩ := h
    rfl
  · obtain ⟨v, d, lo, hi, rfl, hv, k⟩ := h
    refine ⟨_, (pss_one (ps_ret (pe_and (pe_d D_l_integer (hr.mono (by decide)) (pa_cons (pv 0) pa_nil)) (pe_and (pe_cmpR op_le (pv 1) (pv 0) (nomark _)) (pe_one (pe_cmpR op_le (pv 0) (pv 2) (nomark _))))))), ?_⟩
    refine ⟨_, rfl, v, d, rfl, hv, _, rfl, ?_⟩
    cases d with
    | int i =>
      rw [hv.intI] at *
      have k : Q (.bl (decide (lo ≤ i) && decide (i ≤ hi))) H := k
      refine iteT ⟨_, rfl, _, rfl, _, _, rfl, rfl, _, rfl, ifd (fun h1 => ?_) fun h1 => ?_⟩
      · rw [decide_eq_true h1] at k
        exact ⟨_, rfl, _, rfl, _, _, rfl, rfl, k⟩
      · rw [decide_eq_false h1] at k
        exact k
    | _ => exact iteF k
def spBDue : Sp := fun vs H Q _ => ∃ (v : V) (d : PyData) (p : Addr) (ts : List Tab), vs = [.ref p, v] ∧ TbAt H p ts ∧ TsOk ts ∧ Tp H v d ∧ siz d ≤ 40000 ∧ mst d ≤ 100000 ∧ ∀ H', Same H H' → Q (optV (blocksBad ts d)) H'
abbrev s_l_blocks_due : Stmt := topS 61
abbrev sc_l_blocks_dueN : List Str := ["_law_tables_here", "_law_things", "_law_k", "_law_one", "_law_other", "_law_table"]
abbrev ps_l_blocks_due : List Str := ["_law_tables_here", "_law_things"]
theorem sc_l_blocks_due : FnScope sc_l_blocks_dueN ps_l_blocks_due (defScope s_l_blocks_due) := ⟨rfl, rfl, rfl, by decide +kernel, rfl, by decide +kernel, by decide +kernel⟩
theorem ok_l_blocks_due {f : Addr} {fd : FuncData} (F : Fun K "_law_blocks_due" "_law_blocks_due" s_l_blocks_due f fd) (T : Txt K mg CS) (D_l_row : Df P w K mg base "_law_row" 1 ps_l_row spRowL) (D_l_word : Df P w K mg base "_law_word" 1 ps_l_word spWord) (D_l_words : Df P w K mg base "_law_words" 2 ps_l_words spWords) :
    FnOk P w K mg base CX0 3 f fd ps_l_blocks_due spBDue := by
  refine F.ok sc_l_blocks_due (fun vs H Q E h => ?_) (fun cdv A outer s H vs Q E hr h => ?_)
  · obtain ⟨_, _, _, _, rfl, _⟩ := h
    rfl
  · obtain ⟨v, d, tb, ts, rfl, htb, tok, hv, hz, hm, k⟩ := h
    refine ⟨_, (pss_cons (ps_if (PW.pt (pw_or (pt_not (pt_val (pe_d D_l_row (hr.mono (by decide)) (pa_cons (pv 1) pa_nil)))) (pw_or (pt_cmpR op_lt (pe_callB call_len_seq (by rfl) T.n_len (by decide +kernel) (pa_cons (pv 1) pa_nil)) pe_int (nomark _)) (pw_or1 (pt_cmpR op_gt (pe_callB call_len_seq (by rfl) T.n_len (by decide +kernel) (pa_cons (pv 1) pa_nil)) pe_int (nomark _))))))
    (pss_one (ps_ret (pe_un un_neg pe_int)))
    pss_nil)
  (pss_cons (ps_for PassesOwn.never rfl (pi_range1 (by rfl) T.n_range (pa_cons (pe_callB call_len_seq (by rfl) T.n_len (by decide +kernel) (pa_cons (pv 1) pa_nil)) pa_nil)) (pg_name (i := 2) sc_l_blocks_due.nd rfl (Or.inl rfl))
    (pss_cons (ps_set (i := 3) sc_l_blocks_due.nd rfl (Or.inl rfl) (pe_ix (ixK_seq (K := K)) (pv 1) (pv 2) (fun _ _ => rfl)))
    (pss_cons (ps_if (PW.pt (pw_or (pt_not (pt_val (pe_callB call_isi (by rfl) T.n_isinstance (by decide +kernel) (pa_cons (pv 3) (pa_cons (pe_bltn (v := .ty "tuple") (by rfl) T.n_tuple (by decide +kernel) rfl) pa_nil))))) (pw_or (pt_cmpR op_ne (pe_callB call_len_seq (by rfl) T.n_len (by decide +kernel) (pa_cons (pv 3) pa_nil)) pe_int (nomark _)) (pw_or1 (pt_not (pt_val (pe_d D_l_word (hr.mono (by decide)) (pa_cons (pe_ix ix_tup (pv 3) pe_int (fun _ _ => rfl)) pa_nil))))))))
      (pss_one (ps_ret (pv 2)))
      pss_nil)
    (pss_cons (ps_if (PW.pt (pw_or (pt_not (pt_val (pe_d D_l_words (hr.mono (by decide)) (pa_cons (pe_ix ix_tup (pv 3) pe_int (fun _ _ => rfl)) (pa_cons pe_int (pa_cons pe_int pa_nil)))))) (pw_or1 (pt_not (pt_val (pe_d D_l_words (hr.mono (by decide)) (pa_cons (pe_ix ix_tup (pv 3) pe_int (fun _ _ => rfl)) (pa_cons pe_int (pa_cons pe_int pa_nil)))))))))
      (pss_one (ps_ret (pv 2)))
      pss_nil)
    (pss_cons (ps_if (pt_not (pt_val (pe_d D_l_words (hr.mono (by decide)) (pa_cons (pe_op op_cat (pe_callTy call_list_of (by rfl) T.n_list (by decide +kernel) (pa_cons (pe_ix ix_tup (pv 3) pe_int (fun _ _ => rfl)) pa_nil)) (pe_callTy call_list_of (by rfl) T.n_list (by decide +kernel) (pa_cons (pe_ix ix_tup (pv 3) pe_int (fun _ _ => rfl)) pa_nil))) (pa_cons pe_int (pa_cons pe_int pa_nil))))))
      (pss_one (ps_ret (pv 2)))
      pss_nil)
    (pss_one (ps_if (PW.pt (pw_or (pt_cmpR op_in_seq (pe_ix ix_tup (pv 3) pe_int (fun _ _ => rfl)) (pe_lc (own := [("_law_other", 4)]) (g := gName 4) (tt := tYes) (by rfl) sc_l_blocks_due.nd (pi_any (pe_slice sl_any (pv 1) po_none (po_some (pv 2)))) (blkOk_by (own := [("_law_other", 4)]) (N := sc_l_blocks_dueN) (sc := defScope s_l_blocks_due) (by decide +kernel)) (fun _ _ _ _ _ => pg_name (i := 4) sc_l_blocks_due.nd rfl (Or.inl rfl)) (fun _ _ _ _ _ => pts_nil) (fun _ _ _ _ _ => (pe_ix (ixK_seq (K := K)) (pv 4) pe_int (fun _ _ => rfl)))) (by rfl)) (pw_or1 (pt_cmpR op_in_seq (pe_ix ix_tup (pv 3) pe_int (fun _ _ => rfl)) (pe_lc (own := [("_law_table", 5)]) (g := gName 5) (tt := tYes) (by rfl) sc_l_blocks_due.nd (pi_list (pv 0)) (blkOk_by (own := [("_law_table", 5)]) (N := sc_l_blocks_dueN) (sc := defScope s_l_blocks_due) (by decide +kernel)) (fun _ _ _ _ _ => pg_name (i := 5) sc_l_blocks_due.nd rfl (Or.inl rfl)) (fun _ _ _ _ _ => pts_nil) (fun _ _ _ _ _ => (pe_ix (ixK_seq (K := K)) (pv 5) pe_int (fun _ _ => rfl)))) (by rfl)))))
      (pss_one (ps_ret (pv 2)))
      pss_nil)))))))
  (pss_one (ps_ret pe_non)))), ?_⟩
    refine ⟨_, rfl, v, d, rfl, hv, fun H1 s1 => ⟨_, rfl, ?_⟩⟩
    have minus : ∀ {H'}, Same H H' → rowD3 1 6 d = false → Q (.int (-1)) H' := fun s e => by
      have q := k _ s
      unfold blocksBad at q
      rw [e] at q
      exact q
    cases er : isRowD d with
    | false => exact iteT (iteT ⟨1, rfl, minus s1 (by unfold rowD3; rw [er]; rfl)⟩)
    | true =>
      obtain ⟨a, xs, rfl, hx, ha⟩ := (hv.same s1).row er
      have lx := ha.len
      refine iteF ?_
      refine ⟨_, rfl, a, xs, rfl, rw_sq hx, _, _, rfl, rfl, _, rfl, ifd (fun h1 => iteT ⟨1, rfl, minus s1 ?_⟩) fun h1 => ?_⟩
      · unfold rowD3
        rw [← lx, decide_eq_false (show ¬ (1 : Int) ≤ (xs.length : Int) by omega), Bool.and_false]
        rfl
      refine ⟨_, rfl, a, xs, rfl, rw_sq hx, _, _, rfl, rfl, _, rfl, ifd (fun h2 => ⟨1, rfl, minus s1 ?_⟩) fun h2 => ?_⟩
      · unfold rowD3
        rw [← lx, decide_eq_false (show ¬ (xs.length : Int) ≤ 6 by omega), Bool.and_false]
      have e3 : rowD3 1 6 d = true := by
        unfold rowD3
        rw [er, ← lx, decide_eq_true (show (1 : Int) ≤ (xs.length : Int) by omega), decide_eq_true (show (xs.length : Int) ≤ 6 by omega)]
        rfl
      have es : blocksBad ts d = (firstBadB (ts.map (·.1)) (partsD d)).map Int.ofNat := by
        unfold blocksBad
        rw [e3]
        rfl
      rw [es] at k
      rw [siz_row er] at hz
      rw [mst_row er] at hm
      refine ⟨_, rfl, a, xs, rfl, rw_sq hx, _, rfl, by omega, by omega, ?_⟩
      refine for_range (lo := 0) (n := xs.length) (fun i σ H' => ∃ v1 v2, σ = [some (.ref tb), some (.ref a), v1, v2, none, none] ∧ Same H1 H' ∧ (∀ c ∈ (partsD d).take i, blkD c = true) ∧ firstBadB (ts.map (·.1)) (partsD d) = (firstBadB (ts.map (·.1) ++ ((partsD d).take i).map nameT) ((partsD d).drop i)).map (· + i)) ⟨_, _, rfl, Same.refl _, (fun _ m => by cases m), by simp⟩ ?_ ?_
      · rintro i σ H2 hi2 ⟨v1, v2, rfl, s2, al, inv⟩
        have hx1 : xs[i]? = some xs[i] := List.getElem?_eq_getElem hi2
        obtain ⟨c, hc, tc⟩ := ha.at hx1
        have mc := List.mem_of_getElem? hc
        have ym := mst_mem mc
        have yz := siz_mem mc
        have dr : (partsD d).drop i = c :: (partsD d).drop (i + 1) := by
          obtain ⟨hl, q⟩ := List.getElem?_eq_some_iff.mp hc
          rw [← q]
          exact List.drop_eq_getElem_cons hl
        rw [dr] at inv
        have ei : (0 : Int) + ((i : Nat) : Int) = (i : Nat) := Int.zero_add _
        have bad : ∀ {H'}, Same H1 H' → ¬ (blkD c = true ∧ nameT c ∉ ts.map (·.1) ++ ((partsD d).take i).map nameT) → Q (.int (i : Nat)) H' := fun s e => by
          have q := k _ (s1.trans s)
          rw [inv, firstB_bad e] at q
          have q2 : Q (V.int ((0 + i : Nat) : Int)) _ := q
          rw [Nat.zero_add] at q2
          exact q2
        have tc2 := tc.same s2
        have nott : blkD c = false → ¬ (blkD c = true ∧ nameT c ∉ ts.map (·.1) ++ ((partsD d).take i).map nameT) := fun e z => by rw [e] at z; cases z.1
        refine ⟨_, rfl, _, rfl, ix_sq (rw_sq (hx.same s2)) (by rw [ei]; exact atI_nat hx1) ?_⟩
        rw [ei]
        refine ⟨_, rfl, _, _, _, _, _, rfl, .ty _, tc2.ty, kit_ty (kit_d (by simp)), _, rfl, ?_⟩
        cases c with
        | none => exact iteT (iteT ⟨_, rfl, bad s2 (nott rfl)⟩)
        | bool _ => exact iteT (iteT ⟨_, rfl, bad s2 (nott rfl)⟩)
        | int _ => exact iteT (iteT ⟨_, rfl, bad s2 (nott rfl)⟩)
        | str _ => exact iteT (iteT ⟨_, rfl, bad s2 (nott rfl)⟩)
        | list _ => exact iteT (iteT ⟨_, rfl, bad s2 (nott rfl)⟩)
        | dict _ => exact iteT (iteT ⟨_, rfl, bad s2 (nott rfl)⟩)
        | tuple ds =>
          refine iteF ?_
          obtain ⟨p, ys, ep, hp, hys⟩ := tc2.tuple
          have ly := hys.len
          refine ⟨_, rfl, p, ys, (by rw [ep]), .inr (.inl (.inl hp)), rfl, _, rfl, ?_⟩
          by_cases l3 : ds.length = 3
          · refine ifF (by rw [ly, l3]; rfl) ?_
            obtain ⟨c1, c2, c3, rfl⟩ : ∃ c1 c2 c3, ds = [c1, c2, c3] := by
              match ds, l3 with
              | [c1, c2, c3], _ => exact ⟨c1, c2, c3, rfl⟩
            obtain ⟨x, hx0, tx⟩ := hys.to (i := 0) rfl
            obtain ⟨y, hy0, ty⟩ := hys.to (i := 1) rfl
            obtain ⟨z, hz0, tz⟩ := hys.to (i := 2) rfl
            have m1 := mst_mem (ds := [c1, c2, c3]) (d := c1) (by simp)
            have m2 := mst_mem (ds := [c1, c2, c3]) (d := c2) (by simp)
            have m3 := mst_mem (ds := [c1, c2, c3]) (d := c3) (by simp)
            have z2 := siz_mem (ds := [c1, c2, c3]) (d := c2) (by simp)
            have z3 := siz_mem (ds := [c1, c2, c3]) (d := c3) (by simp)
            have ym2 : mstL [c1, c2, c3] ≤ mstL (partsD d) := ym
            have yz2 : 1 + sizL [c1, c2, c3] ≤ sizL (partsD d) := yz
            have td : blkD (.tuple [c1, c2, c3]) = (isNmD c1 && ((nmsD 0 3 c2 && nmsD 1 3 c3) && nmsD 1 6 (.list (partsD c2 ++ partsD c3)))) := rfl
            refine ⟨_, rfl, p, ys, 0, x, (by rw [ep]), rfl, .inl (.inl hp), atI_nat hx0, x, c1, rfl, tx, by omega, _, rfl, ?_⟩
            cases e1 : isNmD c1 with
            | false => exact iteT ⟨_, rfl, bad s2 (nott (by rw [td, e1]; rfl))⟩
            | true =>
              refine iteF ⟨_, rfl, p, ys, 1, y, (by rw [ep]), rfl, .inl (.inl hp), atI_nat hy0, y, c2, 0, 3, rfl, ty, by omega, by omega, fun H3 s3 => ⟨_, rfl, ?_⟩⟩
              have s23 := s2.trans s3
              cases e2 : nmsD 0 3 c2 with
              | false => exact iteT (iteT ⟨_, rfl, bad s23 (nott (by rw [td, e1, e2]; rfl))⟩)
              | true =>
                refine iteF ⟨_, rfl, p, ys, 2, z, (by rw [ep]), rfl, .inl (.inl (s3 _ _ hp)), atI_nat hz0, z, c3, 1, 3, rfl, tz.same s3, by omega, by omega, fun H4 s4 => ⟨_, rfl, ?_⟩⟩
                have s34 := s3.trans s4
                have s24 := s23.trans s4
                cases e3 : nmsD 1 3 c3 with
                | false => exact iteT ⟨_, rfl, bad s24 (nott (by rw [td, e1, e2, e3]; rfl))⟩
                | true =>
                  obtain ⟨er2, _, _⟩ := rowD3_row (nms_row e2)
                  obtain ⟨er3, _, _⟩ := rowD3_row (nms_row e3)
                  obtain ⟨fa, fx, rfl, hfx, tfx⟩ := (ty.same s34).row er2
                  obtain ⟨sa, sx, rfl, hsx, tsx⟩ := (tz.same s34).row er3
                  have lf := tfx.len
                  have lsx := tsx.len
                  refine iteF ⟨_, rfl, p, ys, 1, _, (by rw [ep]), rfl, .inl (.inl (s34 _ _ hp)), atI_nat hy0, ?_⟩
                  refine ⟨fa, fx, rfl, rw_sq hfx, fun l1 hl1 => ?_⟩
                  have s5 : Same _ (upd _ l1 (.lst fx)) := same_new (.lst fx) hl1
                  refine ⟨_, rfl, p, ys, 2, _, (by rw [ep]), rfl, .inl (.inl (s5 _ _ (s34 _ _ hp))), atI_nat hz0, sa, sx, rfl, rw_sq (hsx.same s5), fun l2 hl2 => ?_⟩
                  have s6 := same_new (.lst sx) hl2
                  have n12 : l1 ≠ l2 := fun z => by rw [← z, upd_same] at hl2; cases hl2
                  have zz2 := z2
                  have zz3 := z3
                  have mm2 := m2
                  have mm3 := m3
                  rw [siz_row er2] at zz2
                  rw [siz_row er3] at zz3
                  rw [mst_row er2] at mm2
                  rw [mst_row er3] at mm3
                  refine ⟨l1, l2, fx, sx, rfl, rfl, by rw [upd_ne n12, upd_same], upd_same, Nat.le_trans (show _ ≤ 100000 by have := siz_len (partsD c2); have := siz_len (partsD c3); omega) (by decide), fun l4 hl4 => ?_⟩
                  have s7 := (s5.trans s6).trans (same_new (.lst (fx ++ sx)) hl4)
                  have hl7 : (upd (upd (upd H4 l1 (.lst fx)) l2 (.lst sx)) l4 (.lst (fx ++ sx))) l4 = some (.lst (fx ++ sx)) := upd_same
                  generalize upd (upd (upd H4 l1 (.lst fx)) l2 (.lst sx)) l4 (.lst (fx ++ sx)) = H7 at *
                  have tl : Tp H7 (.ref l4) (.list (partsD c2 ++ partsD c3)) := .lst hl7 ((tfx.same s7).app (tsx.same s7))
                  refine ⟨.ref l4, .list (partsD c2 ++ partsD c3), 1, 6, rfl, tl, ?_, ?_, fun H8 s8 => ⟨_, rfl, ?_⟩⟩
                  · show 1 + sizL (partsD c2 ++ partsD c3) ≤ 100000
                    rw [siz_app]
                    omega
                  · show mstL (partsD c2 ++ partsD c3) ≤ 100000
                    rw [mst_app]
                    omega
                  have s28 := s24.trans (s7.trans s8)
                  cases e4 : nmsD 1 6 (.list (partsD c2 ++ partsD c3)) with
                  | false => exact iteT ⟨_, rfl, bad s28 (nott (by rw [td, e1, e2, e3, e4]; rfl))⟩
                  | true =>
                    have et : blkD (.tuple [c1, c2, c3]) = true := by rw [td, e1, e2, e3, e4]; rfl
                    obtain ⟨s, rfl, _⟩ := nmD_str e1
                    have hp8 := (s34.trans (s7.trans s8)) _ _ hp
                    refine iteF ⟨_, rfl, p, ys, 0, x, (by rw [ep]), rfl, .inl (.inl hp8), atI_nat hx0, ?_⟩
                    have hvv : Tp H8 (.ref a) d := hv.same (s1.trans s28)
                    refine ⟨_, rfl, _, rfl, _, rfl, ?_⟩
                    refine front_tree hvv er (by omega) fun b zs H9 s9 hb tbb => ?_
                    refine ⟨b, zs, rfl, any_of (K := K) (rw_sq hb) (Same.refl _) fun J G gm wk => (fun D hD => ?_)⟩
                    have lz := tbb.len
                    rw [List.length_take] at lz
                    refine lc_it wk (fun j H' => Same H9 H' ∧ H' D = some (.lst ((((partsD d).take i).take j).map fun e => V.str (nameT e)))) ⟨same_new _ hD, by rw [upd_same]; rfl⟩ (fun j H' _ z => gm H' z.1) ?_ ?_
                    · rintro j z H10 H11 hj ⟨s10, d10⟩ ⟨rfl, hzj⟩
                      obtain ⟨e, he, te⟩ := tbb.at hzj
                      obtain ⟨q, rx, ry, rfl, hq⟩ := blk_str te (al e (List.mem_of_getElem? he))
                      refine ⟨rfl, _, rfl, ix_sq (rw_sq (.inr (s10 _ _ hq))) (atI_nat (j := 0) rfl) ?_⟩
                      refine ⟨_, d10, take_lt _ (by rw [List.length_take]; omega), same_put s10 _ hD, ?_⟩
                      rw [upd_same, map_take _ he]
                    rintro H10 ⟨s10, d10⟩
                    rw [lz, List.take_take, Nat.min_eq_left (by omega)] at d10
                    have lt : min i (partsD d).length = i := by omega
                    rw [lt] at d10
                    have d11 : H10 D = some (.lst ((((partsD d).take i).map nameT).map V.str)) := by
                      rw [d10, List.map_map]
                      rfl
                    have s2X := s28.trans (s9.trans s10)
                    have hpX := (s9.trans s10) _ _ hp8
                    refine ⟨D, _, rfl, .inl (.inl (.inl d11)), by rw [tx.strI]; rfl, flat_strs _, _, rfl, ?_⟩
                    rw [tx.strI, inV_str]
                    refine ifd (fun yes => iteT ⟨_, rfl, bad s2X fun z => z.2 (List.mem_append_right _ yes)⟩) fun no => ?_
                    refine ⟨_, rfl, p, ys, 0, x, (by rw [ep]), rfl, .inl (.inl hpX), atI_nat hx0, ?_⟩
                    obtain ⟨tx2, ht2, ta2⟩ := htb.same (s1.trans s2X)
                    refine ⟨_, rfl, tb, rfl, ⟨_, .inl (.inl ht2)⟩, fun D2 hD2 => ?_⟩
                    have ltx := ta2.len
                    rw [List.length_map] at ltx
                    have l5 := tok.hi
                    refine lc_it walk_list (fun j H' => Same H10 H' ∧ H' D2 = some (.lst ((ts.take j).map fun t => V.str t.1))) ⟨same_new _ hD2, upd_same⟩ (fun j H' _ z => .inl (.inl (z.1 _ _ ht2))) ?_ ?_
                    · rintro j y2 H11 H12 hj ⟨s11, d12⟩ ⟨rfl, hyj⟩
                      obtain ⟨e, he, te⟩ := ta2.at hyj
                      rw [List.getElem?_map] at he
                      obtain ⟨t, ht, rfl⟩ := Option.map_eq_some_iff.mp he
                      obtain ⟨q, c9, rfl, hq, _⟩ := tab_in te
                      refine ⟨rfl, _, rfl, ix_sq (rw_sq (.inr (s11 _ _ hq))) (atI_nat (j := 0) rfl) ?_⟩
                      refine ⟨_, d12, take_lt _ (by omega), same_put s11 _ hD2, ?_⟩
                      rw [upd_same, map_take _ ht]
                    rintro H11 ⟨s11, d12⟩
                    rw [ltx, List.take_length, show (ts.map fun t => V.str t.1) = (ts.map (·.1)).map V.str by rw [List.map_map]; rfl] at d12
                    refine ⟨D2, _, rfl, .inl (.inl (.inl d12)), by rw [tx.strI]; rfl, flat_strs _, _, rfl, ?_⟩
                    rw [tx.strI, inV_str]
                    have s2Y := s2X.trans s11
                    refine ifd (fun yes => ⟨_, rfl, bad s2Y fun z => z.2 (List.mem_append_left _ yes)⟩) fun no2 => ?_
                    have nin : nameT (.tuple [.str s, c2, c3]) ∉ ts.map (·.1) ++ ((partsD d).take i).map nameT := fun m => (List.mem_append.mp m).elim no2 no
                    refine ⟨_, _, rfl, s2Y, fun e m => ?_, ?_⟩
                    · rw [List.take_add_one, hc] at m
                      rcases List.mem_append.mp m with m | m
                      · exact al e m
                      · have q : e = .tuple [.str s, c2, c3] := by simpa using m
                        rw [q]
                        exact et
                    · rw [inv, firstB_ok et nin, map_take _ hc, ← List.append_assoc]
                      cases firstBadB (ts.map (·.1) ++ ((partsD d).take i).map nameT ++ [nameT (.tuple [.str s, c2, c3])]) ((partsD d).drop (i + 1)) with
                      | none => rfl
                      | some j =>
                        show some (j + 1 + i) = some (j + (i + 1))
                        rw [Nat.add_assoc, Nat.add_comm 1 i]
          · refine ifT ?_ (iteT ⟨_, rfl, bad s2 (nott ?_)⟩)
            · rw [ly]
              have n : ¬ (V.int (ds.length : Int) = V.int 3) := fun z => l3 (by have q := V.int.inj z; omega)
              rw [decide_eq_false n]
              rfl
            · match ds, l3 with
              | [], _ => rfl
              | [_], _ => rfl
              | [_, _], _ => rfl
              | _ :: _ :: _ :: _ :: _, _ => rfl
              | [_, _, _], l3 => exact absurd rfl l3
      · rintro σ H2 ⟨v1, v2, rfl, s2, al, inv⟩
        rw [lx, List.drop_length] at inv
        have q := k _ (s1.trans s2)
        rw [inv] at q
        exact q
end
end Fm

/-! ## K08LB -/
set_option Elab.async false
set_option maxRecDepth 100000
set_option maxHeartbeats 8000000
namespace Fm
open PySem L2
def formD (d : PyData) : Bool := hasPD d && (decide (kindD d = "put") || rowD3 1 8 ((partsD d).getLastD .none))
def kP : List (Key × V) := [(Sum.inr "scan", .int 4), (Sum.inr "run", .int 5), (Sum.inr "seek", .int 6), (Sum.inr "each", .int 4), (Sum.inr "rise", .int 5), (Sum.inr "look", .int 5), (Sum.inr "same", .int 4), (Sum.inr "put", .int 4)]
theorem kP_get (z : Str) : (valV kP (Sum.inr z : Key)).getD (.int 0) = .int (((partsN z).getD 0 : Nat) : Int) := by
  unfold kP partsN
  by_cases h0 : z = "scan"
  · subst h0
    rfl
  rw [valV_neg (fun e => h0 (Sum.inr.inj e).symm), if_neg h0]
  by_cases h1 : z = "run"
  · subst h1
    rfl
  rw [valV_neg (fun e => h1 (Sum.inr.inj e).symm), if_neg h1]
  by_cases h2 : z = "seek"
  · subst h2
    rfl
  rw [valV_neg (fun e => h2 (Sum.inr.inj e).symm), if_neg h2]
  by_cases h3 : z = "each"
  · subst h3
    rfl
  rw [valV_neg (fun e => h3 (Sum.inr.inj e).symm), if_neg h3]
  by_cases h4 : z = "rise"
  · subst h4
    rfl
  rw [valV_neg (fun e => h4 (Sum.inr.inj e).symm), if_neg h4]
  by_cases h5 : z = "look"
  · subst h5
    rfl
  rw [valV_neg (fun e => h5 (Sum.inr.inj e).symm), if_neg h5]
  by_cases h6 : z = "same"
  · subst h6
    rfl
  rw [valV_neg (fun e => h6 (Sum.inr.inj e).symm), if_neg h6]
  by_cases h7 : z = "put"
  · subst h7
    rfl
  rw [valV_neg (fun e => h7 (Sum.inr.inj e).symm), if_neg h7]
  rfl
section
variable {P : Program} {w : World} {K : PySem.W.Frag} {mg : Str → Option Value} {base : Heap} {CS CG CRd PD CN CBP CBB CBS : Addr}
def spForm : Sp := fun vs H Q _ => ∃ (v : V) (d : PyData), vs = [v] ∧ Tp H v d ∧ mst d ≤ 100000 ∧ ∀ H', Same H H' → Q (.bl (formD d)) H'
abbrev s_l_form : Stmt := topS 62
abbrev sc_l_formN : List Str := ["_law_statement", "_law_parts"]
abbrev ps_l_form : List Str := ["_law_statement"]
theorem sc_l_form : FnScope sc_l_formN ps_l_form (defScope s_l_form) := ⟨rfl, rfl, rfl, by decide +kernel, rfl, by decide +kernel, by decide +kernel⟩
theorem ok_l_form {f : Addr} {fd : FuncData} (F : Fun K "_law_form" "_law_form" s_l_form f fd) (T : Txt K mg CS) (D_l_row : Df P w K mg base "_law_row" 1 ps_l_row spRowL) : FnOk P w K mg base CX0 2 f fd ps_l_form spForm := by
  refine F.ok sc_l_form (fun vs H Q E h => ?_) (fun cdv A outer s H vs Q E hr h => ?_)
  · obtain ⟨_, _, rfl, _⟩ := h
    rfl
  · obtain ⟨v, d, rfl, hv, hm, k⟩ := h
    refine ⟨_, (pss_cons (ps_set (i := 1) sc_l_form.nd rfl (Or.inl rfl) (pe_disp (pps_cons pe_str pe_int (pps_cons pe_str pe_int (pps_cons pe_str pe_int (pps_cons pe_str pe_int (pps_cons pe_str pe_int (pps_cons pe_str pe_int (pps_cons pe_str pe_int (pps_cons pe_str pe_int pps_nil)))))))) (by rfl) (by rfl) (fun z => by cases z) (by decide)))
  (pss_cons (ps_if (PW.pt (pw_or (pt_not (pt_val (pe_callB call_isi (by rfl) T.n_isinstance (by decide +kernel) (pa_cons (pv 0) (pa_cons (pe_bltn (v := .ty "tuple") (by rfl) T.n_tuple (by decide +kernel) rfl) pa_nil))))) (pw_or (pt_cmpR op_eq (pe_callB call_len_seq (by rfl) T.n_len (by decide +kernel) (pa_cons (pv 0) pa_nil)) pe_int (nomark _)) (pw_or1 (pt_not (pt_val (pe_callB call_isi (by rfl) T.n_isinstance (by decide +kernel) (pa_cons (pe_ix ix_tup (pv 0) pe_int (fun _ _ => rfl)) (pa_cons (pe_bltn (v := .ty "str") (by rfl) T.n_str (by decide +kernel) rfl) pa_nil)))))))))
    (pss_one (ps_ret pe_bl))
    pss_nil)
  (pss_cons (ps_if (pt_cmpR op_ne (pe_callB call_len_seq (by rfl) T.n_len (by decide +kernel) (pa_cons (pv 0) pa_nil)) (pe_dget2 (Nat.lt_of_le_of_lt (Nat.add_le_add_left (by decide) _) hr.units) (pv 1) (pe_ix ix_tup (pv 0) pe_int (fun _ _ => rfl)) pe_int ⟨rfl, rfl, rfl, rfl⟩) (nomark _))
    (pss_one (ps_ret pe_bl))
    pss_nil)
  (pss_cons (ps_if (pt_cmpR op_eq (pe_ix ix_tup (pv 0) pe_int (fun _ _ => rfl)) pe_str (nomark _))
    (pss_one (ps_ret pe_bl))
    pss_nil)
  (pss_one (ps_ret (pe_and (pe_d D_l_row (hr.mono (by decide)) (pa_cons (pe_ix ix_tup (pv 0) (pe_un un_neg pe_int) (fun _ _ => rfl)) pa_nil)) (pe_and (pe_cmpR op_le pe_int (pe_callB call_len_seq (by rfl) T.n_len (by decide +kernel) (pa_cons (pe_ix ix_tup (pv 0) (pe_un un_neg pe_int) (fun _ _ => rfl)) pa_nil)) (nomark _)) (pe_one (pe_cmpR op_le (pe_callB call_len_seq (by rfl) T.n_len (by decide +kernel) (pa_cons (pe_ix ix_tup (pv 0) (pe_un un_neg pe_int) (fun _ _ => rfl)) pa_nil)) pe_int (nomark _))))))))))), ?_⟩
    refine fun D hD => ⟨upd_same, kP, rfl, (by decide), ?_⟩
    have s1 : Same H (upd (upd H D (.dK [])) D (.dK (mergeK [] kP))) := by rw [upd2]; exact same_new _ hD
    have hD1 : (upd (upd H D (.dK [])) D (.dK (mergeK [] kP))) D = some (.dK kP) := by
      rw [upd_same]
      exact congrArg (fun l => some (HO.dK l)) (show mergeK [] kP = kP by decide)
    generalize upd (upd H D (.dK [])) D (.dK (mergeK [] kP)) = H1 at *
    have k := fun H' s => k H' (s1.trans s)
    have hv := hv.same s1
    refine ⟨_, rfl, _, _, _, _, _, rfl, .ty _, hv.ty (K := K), kit_ty (kit_d (by simp)), _, rfl, ?_⟩
    have no : ∀ {H'}, Same H1 H' → hasPD d = false → Q (.bl false) H' := fun s e => by
      have q := k _ s
      unfold formD at q
      rw [e] at q
      exact q
    cases d with
    | tuple ds =>
      obtain ⟨a, xs, rfl, ha, ta⟩ := hv.tuple
      refine iteF ⟨_, rfl, a, xs, rfl, .inr (.inl (.inl ha)), rfl, _, rfl, ?_⟩
      cases ta with
      | nil => exact iteT (iteT (no (Same.refl _) rfl))
      | @cons x vs d ds h1 h2 =>
        have nz : ¬ (V.int ((x :: vs).length : Nat) = V.int 0) := fun q => by
          have z : ((x :: vs).length : Int) = 0 := V.int.inj q
          rw [List.length_cons] at z
          omega
        refine ifd (fun q => absurd q nz) fun _ => ?_
        refine ⟨_, rfl, a, _, 0, x, rfl, rfl, .inl (.inl ha), atI_nat (show (x :: vs)[0]? = some x from rfl), _, _, _, _, _, rfl, .ty _, h1.ty (K := K), kit_ty (kit_d (by simp)), _, rfl, ?_⟩
        cases d with
        | str z =>
          obtain rfl : x = V.str z := h1.strI
          have l2 := h2.len
          have hpd : hasPD (.tuple (.str z :: ds)) = decide (partsN z = some (ds.length + 1)) := rfl
          have k : ∀ H', Same H1 H' → Q (.bl (decide (partsN z = some (ds.length + 1)) && (decide (z = "put") || rowD3 1 8 ((PyData.str z :: ds).getLastD .none)))) H' := k
          refine iteF ⟨_, rfl, a, _, rfl, .inr (.inl (.inl ha)), ?_⟩
          refine ⟨_, rfl, D, rfl, .inl ⟨kP, .inl hD1⟩, _, rfl, a, _, 0, _, rfl, rfl, .inl (.inl ha), atI_nat (show (V.str z :: vs)[0]? = some (V.str z) from rfl), valV kP (Sum.inr z), .inl ⟨kP, Sum.inr z, .inl hD1, rfl, rfl⟩, ?_⟩
          rw [kP_get z]
          refine ⟨rfl, _, rfl, ifn (fun ne => ?_) fun eq => ?_⟩
          · have e : hasPD (.tuple (.str z :: ds)) = false := by
              rw [hpd]
              refine decide_eq_false fun q => ne ?_
              rw [q, List.length_cons, l2]
              rfl
            exact no (Same.refl _) e
          have epN : partsN z = some (ds.length + 1) := by
            have q : (((V.str z :: vs).length : Nat) : Int) = (((partsN z).getD 0 : Nat) : Int) := V.int.inj eq
            rw [List.length_cons, l2] at q
            cases w : partsN z with
            | none =>
              rw [w] at q
              exact absurd q (by show ¬ (((ds.length + 1 : Nat) : Int) = ((0 : Nat) : Int)); omega)
            | some m =>
              rw [w] at q
              have q : ((ds.length + 1 : Nat) : Int) = ((m : Nat) : Int) := q
              rw [Int.ofNat.inj q]
          rw [decide_eq_true epN, Bool.true_and] at k
          refine ⟨_, rfl, a, _, 0, _, rfl, rfl, .inl (.inl ha), atI_nat (show (V.str z :: vs)[0]? = some (V.str z) from rfl), rfl, _, rfl, ifd (fun ep => ?_) fun np => ?_⟩
          · have q := k _ (Same.refl _)
            rw [decide_eq_true (V.str.inj ep)] at q
            exact q
          rw [decide_eq_false (fun q => np (by rw [q])), Bool.false_or] at k
          obtain ⟨a2, xs2, z2, ds2, e1, ha2, ed, en, ek, at_, h0, ta⟩ := st_at hv (by rw [hpd]; exact decide_eq_true epN)
          obtain rfl : a = a2 := V.ref.inj e1
          obtain rfl : V.str z :: vs = xs2 := HO.tup.inj (Option.some.inj (ha.symm.trans ha2))
          have eds : PyData.str z :: ds = PyData.str z2 :: ds2 := PyData.tuple.inj ed
          obtain rfl : ds = ds2 := (List.cons.inj eds).2
          have lds : (partsD (.tuple (.str z :: ds))).length = ds.length + 1 := rfl
          have elp : (PyData.str z :: ds).getLastD .none = pt (.tuple (.str z :: ds)) ds.length := by
            have q := lastD_pt (d := .tuple (.str z :: ds))
            rw [lds] at q
            exact q
          rw [elp] at k
          obtain ⟨xl, hl, tl⟩ := at_ ds.length (by omega)
          generalize pt (.tuple (.str z :: ds)) ds.length = dl at *
          have im : atI (V.str z :: vs) (-1) = some xl := atI_m1 (by rw [List.length_cons, l2]; exact hl)
          refine ⟨_, rfl, _, rfl, a, _, _, xl, rfl, rfl, .inl (.inl ha), im, xl, dl, rfl, tl, fun H2 s2 => ⟨_, rfl, ?_⟩⟩
          cases er : isRowD dl with
          | false =>
            have q := k _ s2
            unfold rowD3 at q
            rw [er] at q
            exact iteF q
          | true =>
            obtain ⟨b, ys, rfl, hb, tb⟩ := (tl.same s2).row er
            have lb := tb.len
            have ha3 := s2 _ _ ha
            refine iteT ⟨_, rfl, _, rfl, a, _, _, _, rfl, rfl, .inl (.inl ha3), im, b, ys, rfl, rw_sq hb, ?_⟩
            have k : ∀ H', Same H1 H' → Q (.bl (decide ((1 : Int) ≤ ((partsD dl).length : Nat)) && decide (((partsD dl).length : Nat) ≤ (8 : Int)))) H' := fun H' s => by
              have q := k _ s
              unfold rowD3 at q
              rw [er] at q
              exact q
            rw [← lb] at k
            refine ⟨_, _, rfl, rfl, _, rfl, ifd (fun l1 => ?_) fun l1 => ?_⟩
            · rw [decide_eq_true l1, Bool.true_and] at k
              exact ⟨_, rfl, _, rfl, a, _, _, _, rfl, rfl, .inl (.inl ha3), im, b, ys, rfl, rw_sq hb, _, _, rfl, rfl, k _ s2⟩
            · rw [decide_eq_false l1, Bool.false_and] at k
              exact k _ s2
        | none => exact iteT (no (Same.refl _) rfl)
        | bool _ => exact iteT (no (Same.refl _) rfl)
        | int _ => exact iteT (no (Same.refl _) rfl)
        | list _ => exact iteT (no (Same.refl _) rfl)
        | tuple _ => exact iteT (no (Same.refl _) rfl)
        | dict _ => exact iteT (no (Same.refl _) rfl)
    | none => exact iteT (iteT (no (Same.refl _) rfl))
    | bool _ => exact iteT (iteT (no (Same.refl _) rfl))
    | int _ => exact iteT (iteT (no (Same.refl _) rfl))
    | str _ => exact iteT (iteT (no (Same.refl _) rfl))
    | list _ => exact iteT (iteT (no (Same.refl _) rfl))
    | dict _ => exact iteT (iteT (no (Same.refl _) rfl))
end
end Fm

/-! ## K08LC -/
set_option Elab.async false
set_option maxRecDepth 100000
set_option maxHeartbeats 8000000
namespace Fm
open PySem L2
/-- a row with a name in front -/
def Named1 (c : PyData) : Prop := ∃ s ds, c = .tuple (.str s :: ds)
def findR (cs : List PyData) : PyData → Option PyData
  | .str s => cs.find? fun c => decide (nameT c = s)
  | _ => none
section
variable {P : Program} {w : World} {K : PySem.W.Frag} {mg : Str → Option Value} {base : Heap} {CS CG CRd PD CN CBP CBB CBS : Addr}
def spNamedRow : Sp := fun vs H Q _ => ∃ (v u : V) (d c : PyData), vs = [v, u] ∧ Tp H v d ∧ isRowD d = true ∧ (∀ e ∈ partsD d, Named1 e) ∧ Tp H u c ∧ (∀ H', Same H H' → findR (partsD d) c = none → Q .non H') ∧ ∀ H' e r, Same H H' → findR (partsD d) c = some e → Tp H' r e → Q r H'
abbrev s_l_named_row : Stmt := topS 64
abbrev sc_l_named_rowN : List Str := ["_law_rows", "_law_name_here", "_law_row_here"]
abbrev ps_l_named_row : List Str := ["_law_rows", "_law_name_here"]
theorem sc_l_named_row : FnScope sc_l_named_rowN ps_l_named_row (defScope s_l_named_row) := ⟨rfl, rfl, rfl, by decide +kernel, rfl, by decide +kernel, by decide +kernel⟩
theorem ok_l_named_row {f : Addr} {fd : FuncData} (F : Fun K "_law_named_row" "_law_named_row" s_l_named_row f fd) (T : Txt K mg CS) : FnOk P w K mg base CX0 1 f fd ps_l_named_row spNamedRow := by
  refine F.ok sc_l_named_row (fun vs H Q E h => ?_) (fun cdv A outer s H vs Q E hr h => ?_)
  · obtain ⟨_, _, _, _, rfl, _⟩ := h
    rfl
  · obtain ⟨v, u, d, c, rfl, hv, er, nm, hu, kN, kS⟩ := h
    refine ⟨_, (pss_cons (ps_for PassesOwn.never rfl (pi_any (pv 0)) (pg_name (i := 2) sc_l_named_row.nd rfl (Or.inl rfl))
    (pss_one (ps_if (PW.pt (pw_and (pt_val (pe_callB call_isi (by rfl) T.n_isinstance (by decide +kernel) (pa_cons (pv 1) (pa_cons (pe_bltn (v := .ty "str") (by rfl) T.n_str (by decide +kernel) rfl) pa_nil)))) (pw_and1 (pt_cmpR op_eq (pe_ix ix_tup (pv 2) pe_int (fun _ _ => rfl)) (pv 1) (nomark _)))))
      (pss_one (ps_ret (pv 2)))
      pss_nil)))
  (pss_one (ps_ret pe_non))), ?_⟩
    obtain ⟨a, xs, rfl, hx, ta⟩ := hv.row er
    refine ⟨_, rfl, a, xs, rfl, any_of (K := K) (rw_sq hx) (Same.refl _) fun J G gm wk => ?_⟩
    refine for_it wk (fun i σ H' => ∃ v2, σ = [some (.ref a), some u, v2] ∧ Same H H' ∧ ∀ e ∈ (partsD d).take i, c ≠ .str (nameT e)) ⟨_, rfl, Same.refl _, fun _ m => by cases m⟩ (fun i σ H' _ z => by obtain ⟨_, _, z, _⟩ := z; exact gm H' z) ?_ ?_
    · rintro i x σ H2 H3 hi ⟨v2, rfl, s2, inv⟩ ⟨rfl, hxi⟩
      obtain ⟨e, he, te⟩ := ta.at hxi
      obtain ⟨s, ds, rfl⟩ := nm e (List.mem_of_getElem? he)
      have te2 := te.same s2
      obtain ⟨p, ys, rfl, hp, tys⟩ := te2.tuple
      obtain ⟨y0, hy0, ty0⟩ := tys.to (i := 0) rfl
      obtain rfl : y0 = V.str s := ty0.strI
      have hu2 := hu.same s2
      refine ⟨_, rfl, _, _, _, _, _, rfl, .ty _, hu2.ty (K := K), kit_ty (kit_d (by simp)), _, rfl, ?_⟩
      have next : ∀ {H'}, Same H H' → c ≠ .str s → ∃ v2, [some (V.ref a), some u, some (V.ref p)] = [some (V.ref a), some u, v2] ∧ Same H H' ∧ ∀ e ∈ (partsD d).take (i + 1), c ≠ .str (nameT e) := fun sh n => ⟨_, rfl, sh, fun e m => by
        rw [List.take_add_one, he] at m
        rcases List.mem_append.mp m with m | m
        · exact inv e m
        · have q : e = (.tuple (.str s :: ds)) := by simpa using m
          rw [q]
          exact n⟩
      cases c with
      | str z =>
        obtain rfl : u = V.str z := hu2.strI
        refine iteT ⟨_, rfl, p, ys, 0, _, rfl, rfl, .inl (.inl hp), atI_nat hy0, _, rfl, rfl, _, rfl, ifd (fun yes => ?_) fun no => ?_⟩
        · have ez : s = z := V.str.inj yes
          subst ez
          refine ⟨_, rfl, kS _ (.tuple (.str s :: ds)) _ s2 ?_ te2⟩
          show (partsD d).find? _ = _
          rw [← List.take_append_drop i (partsD d), List.find?_append, List.find?_eq_none.mpr (fun e m q => inv e m (by rw [of_decide_eq_true q]))]
          have dr : (partsD d).drop i = .tuple (.str s :: ds) :: (partsD d).drop (i + 1) := by
            obtain ⟨hl, q⟩ := List.getElem?_eq_some_iff.mp he
            rw [← q]
            exact List.drop_eq_getElem_cons hl
          rw [dr, List.find?_cons_of_pos (by exact decide_eq_true rfl)]
          rfl
        · exact next s2 fun q => no (by rw [PyData.str.inj q])
      | none => exact iteF (next s2 fun q => by cases q)
      | bool _ => exact iteF (next s2 fun q => by cases q)
      | int _ => exact iteF (next s2 fun q => by cases q)
      | list _ => exact iteF (next s2 fun q => by cases q)
      | tuple _ => exact iteF (next s2 fun q => by cases q)
      | dict _ => exact iteF (next s2 fun q => by cases q)
    · rintro σ H2 ⟨v2, rfl, s2, inv⟩
      rw [ta.len, List.take_length] at inv
      refine kN _ s2 ?_
      cases c with
      | str z => exact List.find?_eq_none.mpr fun e m q => inv e m (by rw [of_decide_eq_true q])
      | _ => rfl
end
end Fm

/-! ## K08LD -/
set_option Elab.async false
set_option maxRecDepth 100000
set_option maxHeartbeats 8000000
namespace Fm
open PySem L2
def NmP (c : PyData) (l : List Str) : Prop := isRowD c = true ∧ partsD c = l.map PyData.str
/-- the tables and the blocks of the law -/
def tabsD (ts : List Tab) : PyData := .list (ts.map (tabD false))
structure WrAt (H : Hp) (tv bv : V) (ts : List Tab) (dB : PyData) : Prop where
  t : Tp H tv (tabsD ts)
  b : Tp H bv dB
  ok : TsOk ts
  bo : blocksBad ts dB = none
  sb : siz dB ≤ 40000
  mb : mst dB ≤ 100000
theorem WrAt.same {H H' : Hp} {tv bv : V} {ts : List Tab} {dB : PyData} (h : WrAt H tv bv ts dB) (s : Same H H') : WrAt H' tv bv ts dB := ⟨h.t.same s, h.b.same s, h.ok, h.bo, h.sb, h.mb⟩
def entP (ts : List Tab) (bs : Env) (d : PyData) : List Str × List Str := if overE (kindD d) = true then (envAt bs (nameD (pt d 2))).getD ([], []) else (foT ts (pt d 2), [])
/-- a right statement that binds a variable -/
structure GoodB (ts : List Tab) (dB d : PyData) : Prop where
  p : hasPD d = true
  n : ∃ n, pt d 1 = .str n ∧ isNm n = true
  k : (overE (kindD d) = true ∧ ∃ c, findR (partsD dB) (pt d 2) = some c) ∨ ((kindD d = "scan" ∨ kindD d = "run" ∨ kindD d = "seek") ∧ ∃ t ∈ ts, pt d 2 = .str t.1)
theorem blk_all {ts : List Tab} {dB : PyData} (h : blocksBad ts dB = none) : isRowD dB = true ∧ (∀ c ∈ partsD dB, blkD c = true) ∧ ((partsD dB).map nameT).Nodup ∧ (partsD dB).length ≤ 6 := by
  unfold blocksBad at h
  by_cases e : rowD3 1 6 dB = true
  · rw [if_pos e] at h
    obtain ⟨q1, q2, _⟩ := firstB_none (Option.map_eq_none_iff.mp h)
    obtain ⟨er, _, l6⟩ := rowD3_row e
    exact ⟨er, q1, q2, by omega⟩
  · rw [if_neg e] at h
    cases h
theorem blk_form {c : PyData} (h : blkD c = true) : ∃ s f g, c = .tuple [.str s, f, g] ∧ isNm s = true ∧ nmsD 0 3 f = true ∧ nmsD 1 3 g = true := by
  have h3 : tupD 3 c = true := by
    cases q : tupD 3 c with
    | true => rfl
    | false => rw [blk_no3 q] at h; cases h
  obtain ⟨a, b, g, rfl⟩ := tup3 h3
  have h : (isNmD a && ((nmsD 0 3 b && nmsD 1 3 g) && nmsD 1 6 (.list (partsD b ++ partsD g)))) = true := h
  rw [Bool.and_eq_true, Bool.and_eq_true, Bool.and_eq_true] at h
  obtain ⟨s, rfl, es⟩ := nmD_str h.1
  exact ⟨s, b, g, rfl, es, h.2.1.1, h.2.1.2⟩
theorem nms_P {lo hi : Int} {d : PyData} (h : nmsD lo hi d = true) : NmP d (namesD d) := by
  have h0 := nms_row h
  obtain ⟨e, _, _⟩ := rowD3_row h0
  refine ⟨e, ?_⟩
  unfold nmsD at h
  rw [Bool.and_eq_true, Bool.and_eq_true] at h
  have al := h.1.2
  unfold namesD
  rw [List.map_map]
  have go : ∀ l : List PyData, l.all isNmD = true → l = l.map (PyData.str ∘ nameD) := by
    intro l
    induction l with
    | nil => exact fun _ => rfl
    | cons x l ih =>
      intro h
      rw [List.all_cons, Bool.and_eq_true] at h
      obtain ⟨s, rfl, _⟩ := nmD_str h.1
      rw [List.map_cons, ← ih h.2]
      rfl
  exact go _ al
theorem find_blk {cs : List PyData} {s : Str} {c : PyData} (al : ∀ c ∈ cs, blkD c = true) (h : findR cs (.str s) = some c) : c ∈ cs ∧ nameT c = s ∧ envAt (cs.map blkE) s = some (blkE c).2 := by
  have h : cs.find? (fun c => decide (nameT c = s)) = some c := h
  refine ⟨List.mem_of_find?_eq_some h, of_decide_eq_true (p := nameT c = s) (by have y := List.find?_some (p := fun c => decide (nameT c = s)) h; exact y), ?_⟩
  unfold envAt
  rw [List.find?_map]
  have e : cs.find? ((fun p : Str × List Str × List Str => decide (p.1 = s)) ∘ blkE) = cs.find? (fun c => decide (nameT c = s)) := by
    have go : ∀ l : List PyData, (∀ c ∈ l, blkD c = true) → l.find? ((fun p : Str × List Str × List Str => decide (p.1 = s)) ∘ blkE) = l.find? (fun c => decide (nameT c = s)) := by
      intro l
      induction l with
      | nil => exact fun _ => rfl
      | cons x l ih =>
        intro h
        have q : (blkE x).1 = nameT x := blk_nameT (h x List.mem_cons_self)
        rw [List.find?_cons, List.find?_cons, ih fun c m => h c (List.mem_cons_of_mem _ m)]
        show (match decide ((blkE x).1 = s) with | true => some x | false => _) = _
        rw [q]
        rfl
    exact go cs al
  rw [e, h]
  rfl
theorem find_none {cs : List PyData} {s : Str} (al : ∀ c ∈ cs, blkD c = true) (h : findR cs (.str s) = none) : envAt (cs.map blkE) s = none := by
  have h : cs.find? (fun c => decide (nameT c = s)) = none := h
  unfold envAt
  rw [List.find?_map, Option.map_map, Option.map_eq_none_iff, List.find?_eq_none]
  intro c m q
  have e : (blkE c).1 = s := of_decide_eq_true q
  rw [blk_nameT (al c m)] at e
  exact List.find?_eq_none.mp h c m (decide_eq_true e)
theorem find_tab {ts : List Tab} {d : PyData} : (findR (ts.map (tabD false)) d = none ∧ ∀ t ∈ ts, d ≠ .str t.1) ∨ ∃ t ∈ ts, d = .str t.1 ∧ findR (ts.map (tabD false)) d = some (tabD false t) ∧ foT ts d = t.2 := by
  cases d with
  | str s =>
    show ((ts.map (tabD false)).find? (fun c => decide (nameT c = s)) = none ∧ _) ∨ ∃ t ∈ ts, _ ∧ (ts.map (tabD false)).find? (fun c => decide (nameT c = s)) = _ ∧ _
    rw [List.find?_map]
    have e : ts.find? ((fun c => decide (nameT c = s)) ∘ tabD false) = ts.find? fun t => isStrD t.1 (.str s) := by
      have f : ((fun c => decide (nameT c = s)) ∘ tabD false) = fun t : Tab => isStrD t.1 (.str s) := funext fun t => by
        show decide (t.1 = s) = isStrD t.1 (.str s)
        unfold isStrD
        first | rfl | exact decide_eq_decide.mpr ⟨fun q => q.symm, fun q => q.symm⟩
      rw [f]
    rw [e]
    cases q : ts.find? fun t => isStrD t.1 (.str s) with
    | none => exact .inl ⟨rfl, fun t m z => by
        have y := List.find?_eq_none.mp q t m
        rw [z] at y
        exact y (decide_eq_true rfl)⟩
    | some t => exact .inr ⟨t, List.mem_of_find?_eq_some q, strD_of (List.find?_some (p := fun t : Tab => isStrD t.1 (.str s)) q), rfl, by unfold foT; rw [q]⟩
  | _ => exact .inl ⟨rfl, fun t _ z => by cases z⟩
section
variable {P : Program} {w : World} {K : PySem.W.Frag} {mg : Str → Option Value} {base : Heap} {CS CG CRd PD CN CBP CBB CBS : Addr}
def spThere : Sp := fun vs H Q _ => ∃ (tv bv v : V) (ts : List Tab) (dB d : PyData), vs = [tv, bv, v] ∧ WrAt H tv bv ts dB ∧ Tp H v d ∧ GoodB ts dB d ∧ ∀ H' u f g, Same H H' → Tp H' u (.tuple [f, g]) → NmP f (entP ts (envB dB) d).1 → NmP g (entP ts (envB dB) d).2 → Q u H'
abbrev s_l_names_there : Stmt := topS 65
abbrev sc_l_names_thereN : List Str := ["_law_tables_here", "_law_blocks_here", "_law_statement"]
abbrev ps_l_names_there : List Str := ["_law_tables_here", "_law_blocks_here", "_law_statement"]
theorem sc_l_names_there : FnScope sc_l_names_thereN ps_l_names_there (defScope s_l_names_there) := ⟨rfl, rfl, rfl, by decide +kernel, rfl, by decide +kernel, by decide +kernel⟩
theorem ok_l_names_there {f : Addr} {fd : FuncData} (F : Fun K "_law_names_there" "_law_names_there" s_l_names_there f fd) (T : Txt K mg CS) (D_l_named_row : Df P w K mg base "_law_named_row" 1 ps_l_named_row spNamedRow) : FnOk P w K mg base CX0 2 f fd ps_l_names_there spThere := by
  refine F.ok sc_l_names_there (fun vs H Q E h => ?_) (fun cdv A outer s H vs Q E hr h => ?_)
  · obtain ⟨_, _, _, _, _, _, rfl, _⟩ := h
    rfl
  · obtain ⟨tv, bv, v, ts, dB, d, rfl, W, hv, g, k⟩ := h
    refine ⟨_, (pss_cons (ps_if (pt_cmpR op_in_seq (pe_ix ix_tup (pv 2) pe_int (fun _ _ => rfl)) (pe_tup (pa_cons pe_str (pa_cons pe_str (pa_cons pe_str pa_nil)))) (by rfl))
    (pss_one (ps_ret (pe_tup (pa_cons (pe_ix ix_tup (pe_d D_l_named_row (hr.mono (by decide)) (pa_cons (pv 0) (pa_cons (pe_ix ix_tup (pv 2) pe_int (fun _ _ => rfl)) pa_nil))) pe_int (fun _ _ => rfl)) (pa_cons (pe_tup pa_nil) pa_nil)))))
    pss_nil)
  (pss_one (ps_ret (pe_slice sl_any (pe_d D_l_named_row (hr.mono (by decide)) (pa_cons (pv 1) (pa_cons (pe_ix ix_tup (pv 2) pe_int (fun _ _ => rfl)) pa_nil))) (po_some pe_int) po_none)))), ?_⟩
    obtain ⟨a, xs, z, ds, rfl, ha, ed, en, ek, at_, h0, ta⟩ := st_at hv g.p
    refine ⟨_, rfl, a, _, 0, _, rfl, rfl, .inl (.inl ha), atI_nat h0, ?_⟩
    refine ⟨(by show 3 ≤ sizeLine; decide), fun tp htp => ?_⟩
    refine ⟨tp, _, rfl, .inr (.inl (.inl upd_same)), rfl, rfl, _, rfl, ?_⟩
    have s1 : Same H (upd H tp (.tup [.str "scan", .str "run", .str "seek"])) := same_new _ htp
    generalize upd H tp (.tup [.str "scan", .str "run", .str "seek"]) = H1 at *
    have ein : inV (V.str z) ([("scan" : Str), "run", "seek"].map V.str) = decide (z = "scan" ∨ z = "run" ∨ z = "seek") := by
      rw [inV_str]
      exact decide_eq_decide.mpr (by simp)
    have l3 : 3 ≤ ds.length := by
      have hk := g.k
      rw [ek] at hk
      rcases hk with ⟨q, _⟩ | ⟨q, _⟩
      · unfold overE at q
        simp only [Bool.or_eq_true, decide_eq_true_eq] at q
        rcases q with q | q | q
        · have := parts_of en (m := 4) (by rw [q]; rfl); omega
        · have := parts_of en (m := 5) (by rw [q]; rfl); omega
        · have := parts_of en (m := 5) (by rw [q]; rfl); omega
      · rcases q with q | q | q
        · have := parts_of en (m := 4) (by rw [q]; rfl); omega
        · have := parts_of en (m := 5) (by rw [q]; rfl); omega
        · have := parts_of en (m := 6) (by rw [q]; rfl); omega
    obtain ⟨x2, h2, t2⟩ := at_ 2 (by omega)
    have ha1 := s1 _ _ ha
    obtain ⟨erB, alB, ndB, l6⟩ := blk_all W.bo
    show (if inV (V.str z) ([("scan" : Str), "run", "seek"].map V.str) = true then _ else _)
    rw [ein]
    refine ifd (fun yes => ?_) fun no => ?_
    · have hk := g.k
      rw [ek] at hk
      rcases hk with ⟨q, _⟩ | ⟨_, t, mt, et⟩
      · exact absurd q (by rcases yes with y | y | y <;> (rw [y]; decide))
      have ho : overE (kindD d) = false := by
        rw [ek]
        rcases yes with y | y | y <;> (rw [y]; decide)
      have eP : entP ts (envB dB) d = (foT ts (pt d 2), []) := by
        unfold entP
        rw [if_neg (by rw [ho]; exact Bool.false_ne_true)]
      rcases find_tab (ts := ts) (d := pt d 2) with ⟨_, q⟩ | ⟨t2', mt2, et2, ef, efo⟩
      · exact absurd et (q t mt)
      refine ⟨_, rfl, _, rfl, a, _, 2, _, rfl, rfl, .inl (.inl ha1), atI_nat h2, ?_⟩
      refine ⟨tv, x2, tabsD ts, pt d 2, rfl, W.t.same s1, rfl, fun e me => ?_, t2.same s1, fun H' s' e => ?_, fun H' e r s' ee tr => ?_⟩
      · obtain ⟨t9, _, rfl⟩ := List.mem_map.mp me
        exact ⟨t9.1, _, rfl⟩
      · have e : findR (ts.map (tabD false)) (pt d 2) = none := e
        rw [ef] at e
        cases e
      · have ee : findR (ts.map (tabD false)) (pt d 2) = some e := ee
        rw [ef] at ee
        obtain rfl : tabD false t2' = e := Option.some.inj ee
        obtain ⟨p', c, rfl, hp', hc⟩ := tab_in tr
        refine ⟨p', _, 1, _, rfl, rfl, .inl (.inl hp'), ix1, (by show 0 ≤ sizeLine; decide), fun e he => ⟨(by show 2 ≤ sizeLine; decide), fun q hq => ?_⟩⟩
        have s3 := (same_new (.tup []) he).trans (same_new (.tup [.ref c, .ref e]) hq)
        have neq : e ≠ q := fun y => by rw [← y, upd_same] at hq; cases hq
        refine k _ _ (.tuple (t2'.2.map PyData.str)) (.tuple []) (s1.trans (s'.trans s3)) ?_ (by rw [eP, efo]; exact ⟨rfl, rfl⟩) (by rw [eP]; exact ⟨rfl, rfl⟩)
        refine .tup upd_same (.cons (.tup (s3 _ _ hc) (.strs t2'.2)) (.cons (.tup (xs := []) ?_ .nil) .nil))
        rw [upd_ne neq, upd_same]
    · have hk := g.k
      rw [ek] at hk
      rcases hk with ⟨ho, c, hc⟩ | ⟨q, _⟩
      rotate_left
      · exact absurd q no
      obtain ⟨b, eb⟩ : ∃ b, pt d 2 = .str b := by
        cases y : pt d 2 with
        | str b => exact ⟨b, rfl⟩
        | _ => rw [y] at hc; cases hc
      have hc' := hc
      rw [eb] at hc'
      obtain ⟨mc, enm, eenv⟩ := find_blk alB hc'
      obtain ⟨s, f, g', rfl, _, ef, eg⟩ := blk_form (alB c mc)
      have eP : entP ts (envB dB) d = (namesD f, namesD g') := by
        unfold entP
        rw [ek, if_pos ho, eb]
        show (envAt ((partsD dB).map blkE) b).getD _ = _
        rw [eenv]
        rfl
      refine ⟨_, rfl, _, rfl, a, _, 2, _, rfl, rfl, .inl (.inl ha1), atI_nat h2, ?_⟩
      refine ⟨bv, x2, dB, pt d 2, rfl, W.b.same s1, erB, fun e me => ?_, t2.same s1, fun H' s' e => ?_, fun H' e r s' ee tr => ?_⟩
      · obtain ⟨s9, f9, g9, rfl, _⟩ := blk_form (alB e me)
        exact ⟨s9, _, rfl⟩
      · rw [hc] at e
        cases e
      · rw [hc] at ee
        obtain rfl := Option.some.inj ee
        refine ⟨_, rfl, ?_⟩
        refine sl_tree (Same.refl _) tr rfl fun u F' H'' gr t => ?_
        exact k _ _ f g' (s1.trans (s'.trans (gr.ff.trans gr.fh))) (t.same gr.fh) (by rw [eP]; exact nms_P ef) (by rw [eP]; exact nms_P eg)
end
end Fm

/-! ## K08LE -/
set_option Elab.async false
set_option maxRecDepth 100000
set_option maxHeartbeats 8000000
namespace Fm
open PySem L2
def envOf (ts : List Tab) (bs : Env) (ar : List PyData) : Env := ar.map fun d => (nameD (pt d 1), entP ts bs d)
def readsD (e : Env) (too : Bool) : PyData → Bool
  | .tuple [a, .str s, c] => isStrD "of" a && (match envAt e s with | some p => inS c p.1 || (too && inS c p.2) | none => false)
  | _ => false
theorem reads_yes {e : Env} {too : Bool} {ds : List PyData} (h : readsD e too (.tuple ds) = true) : ∃ a s c, ds = [a, .str s, c] := by
  unfold readsD at h
  split at h
  · rename_i a s c e1
    exact ⟨a, s, c, PyData.tuple.inj e1⟩
  · cases h
theorem reads_len {e : Env} {too : Bool} {ds : List PyData} (h : ds.length ≠ 3) : readsD e too (.tuple ds) = false := by
  cases q : readsD e too (.tuple ds) with
  | false => rfl
  | true =>
    obtain ⟨a, s, c, rfl⟩ := reads_yes q
    exact absurd rfl h
theorem reads_str {e : Env} {too : Bool} {a b c : PyData} (h : ∀ s, b ≠ .str s) : readsD e too (.tuple [a, b, c]) = false := by
  cases b with
  | str s => exact absurd rfl (h s)
  | _ => rfl
theorem envOf_hit {ts : List Tab} {bs : Env} {ar : List PyData} {i : Nat} {s : PyData} {n : Str} (h : ar[i]? = some s) (no : ∀ u ∈ ar.take i, nameD (pt u 1) ≠ n) (e : nameD (pt s 1) = n) : envAt (envOf ts bs ar) n = some (entP ts bs s) := by
  unfold envAt envOf
  have dr : ar.drop i = s :: ar.drop (i + 1) := by
    obtain ⟨hl, q⟩ := List.getElem?_eq_some_iff.mp h
    rw [← q]
    exact List.drop_eq_getElem_cons hl
  have q : ar.find? ((fun p : Str × List Str × List Str => decide (p.1 = n)) ∘ fun d => (nameD (pt d 1), entP ts bs d)) = some s := by
    have q1 : (ar.take i).find? ((fun p : Str × List Str × List Str => decide (p.1 = n)) ∘ fun d => (nameD (pt d 1), entP ts bs d)) = none := List.find?_eq_none.mpr (fun u m z => no u m (of_decide_eq_true z))
    rw [← List.take_append_drop i ar, List.find?_append, q1, dr, List.find?_cons_of_pos (by exact decide_eq_true e)]
    rfl
  rw [List.find?_map, q]
  rfl
theorem envOf_miss {ts : List Tab} {bs : Env} {ar : List PyData} {n : Str} (no : ∀ u ∈ ar, nameD (pt u 1) ≠ n) : envAt (envOf ts bs ar) n = none := by
  unfold envAt envOf
  rw [List.find?_map, Option.map_map, Option.map_eq_none_iff, List.find?_eq_none]
  exact fun u m z => no u m (of_decide_eq_true z)
/-- the world of the law: tables and blocks -/
def WpAt (H : Hp) (wp : Addr) (ts : List Tab) (dB : PyData) : Prop := ∃ tv bv, H wp = some (.tup [tv, bv]) ∧ WrAt H tv bv ts dB
theorem WpAt.same {H H' : Hp} {wp : Addr} {ts : List Tab} {dB : PyData} (h : WpAt H wp ts dB) (s : Same H H') : WpAt H' wp ts dB := by
  obtain ⟨tv, bv, h1, h2⟩ := h
  exact ⟨tv, bv, s _ _ h1, h2.same s⟩
theorem NmP.strs {H : Hp} {v : V} {c : PyData} {l : List Str} (h : NmP c l) (hv : Tp H v c) : ∃ a, v = .ref a ∧ Rw H a (l.map V.str) := by
  obtain ⟨a, xs, rfl, hx, ta⟩ := hv.row h.1
  rw [h.2] at ta
  rw [strs_inv ta] at hx
  exact ⟨a, rfl, hx⟩
section
variable {P : Program} {w : World} {K : PySem.W.Frag} {mg : Str → Option Value} {base : Heap} {CS CG CRd PD CN CBP CBB CBS : Addr}
def spReadsL : Sp := fun vs H Q _ => ∃ (wp : Addr) (av v : V) (too : Bool) (ts : List Tab) (dB d : PyData) (ar : List PyData), vs = [.ref wp, av, v, .bl too] ∧ WpAt H wp ts dB ∧ Tp H av (.list ar) ∧ (∀ s ∈ ar, GoodB ts dB s) ∧ Tp H v d ∧ ∀ H', Same H H' → Q (.bl (readsD (envOf ts (envB dB) ar) too d)) H'
abbrev s_l_reads : Stmt := topS 66
abbrev sc_l_readsN : List Str := ["_law_world", "_law_around", "_law_thing", "_law_sums_too", "_law_statement", "_law_names"]
abbrev ps_l_reads : List Str := ["_law_world", "_law_around", "_law_thing", "_law_sums_too"]
theorem sc_l_reads : FnScope sc_l_readsN ps_l_reads (defScope s_l_reads) := ⟨rfl, rfl, rfl, by decide +kernel, rfl, by decide +kernel, by decide +kernel⟩
theorem ok_l_reads {f : Addr} {fd : FuncData} (F : Fun K "_law_reads" "_law_reads" s_l_reads f fd) (T : Txt K mg CS) (D_l_names_there : Df P w K mg base "_law_names_there" 2 ps_l_names_there spThere) : FnOk P w K mg base CX0 3 f fd ps_l_reads spReadsL := by
  refine F.ok sc_l_reads (fun vs H Q E h => ?_) (fun cdv A outer s H vs Q E hr h => ?_)
  · obtain ⟨_, _, _, _, _, _, _, _, rfl, _⟩ := h
    rfl
  · obtain ⟨wp, av, v, too, ts, dB, d, ar, rfl, W, ha, ga, hv, k⟩ := h
    refine ⟨_, (pss_cons (ps_if (PW.pt (pw_or (pt_not (pt_val (pe_callB call_isi (by rfl) T.n_isinstance (by decide +kernel) (pa_cons (pv 2) (pa_cons (pe_bltn (v := .ty "tuple") (by rfl) T.n_tuple (by decide +kernel) rfl) pa_nil))))) (pw_or (pt_cmpR op_ne (pe_callB call_len_seq (by rfl) T.n_len (by decide +kernel) (pa_cons (pv 2) pa_nil)) pe_int (nomark _)) (pw_or1 (pt_cmpR (op_neT hr.units) (pe_ix ix_tup (pv 2) pe_int (fun _ _ => rfl)) pe_str (nomark _))))))
    (pss_one (ps_ret pe_bl))
    pss_nil)
  (pss_cons (ps_for PassesOwn.never rfl (pi_list (pv 1)) (pg_name (i := 4) sc_l_reads.nd rfl (Or.inl rfl))
    (pss_one (ps_if (pt_cmpR (op_eqT hr.units) (pe_ix ix_tup (pv 4) pe_int (fun _ _ => rfl)) (pe_ix ix_tup (pv 2) pe_int (fun _ _ => rfl)) (nomark _))
      (pss_cons (ps_set (i := 5) sc_l_reads.nd rfl (Or.inl rfl) (pe_d D_l_names_there (hr.mono (by decide)) (pa_cons (pe_ix ix_tup (pv 0) pe_int (fun _ _ => rfl)) (pa_cons (pe_ix ix_tup (pv 0) pe_int (fun _ _ => rfl)) (pa_cons (pv 4) pa_nil)))))
      (pss_one (ps_ret (pe_or (pe_cmpR (op_inT (K := K) hr.units) (pe_ix ix_tup (pv 2) pe_int (fun _ _ => rfl)) (pe_ix ix_tup (pv 5) pe_int (fun _ _ => rfl)) (by rfl)) (pe_one (pe_and (pv 3) (pe_one (pe_cmpR (op_inT (K := K) hr.units) (pe_ix ix_tup (pv 2) pe_int (fun _ _ => rfl)) (pe_ix ix_tup (pv 5) pe_int (fun _ _ => rfl)) (by rfl)))))))))
      pss_nil)))
  (pss_one (ps_ret pe_bl)))), ?_⟩
    refine ⟨_, rfl, _, _, _, _, _, rfl, .ty _, hv.ty (K := K), kit_ty (kit_d (by simp)), _, rfl, ?_⟩
    have no : ∀ {H'}, Same H H' → readsD (envOf ts (envB dB) ar) too d = false → Q (.bl false) H' := fun s e => by
      have q := k _ s
      rw [e] at q
      exact q
    cases d with
    | tuple ds =>
      obtain ⟨p, ys, rfl, hp, tys⟩ := hv.tuple
      have ly := tys.len
      refine iteF ⟨_, rfl, p, ys, rfl, .inr (.inl (.inl hp)), rfl, _, rfl, ?_⟩
      by_cases l3 : ds.length = 3
      · refine ifF (by rw [ly, l3]; rfl) ?_
        obtain ⟨c1, c2, c3, rfl⟩ : ∃ c1 c2 c3, ds = [c1, c2, c3] := by
          match ds, l3 with
          | [c1, c2, c3], _ => exact ⟨c1, c2, c3, rfl⟩
        obtain ⟨x, hx0, tx⟩ := tys.to (i := 0) rfl
        obtain ⟨y, hy0, ty⟩ := tys.to (i := 1) rfl
        obtain ⟨z, hz0, tz⟩ := tys.to (i := 2) rfl
        refine ⟨_, rfl, p, ys, 0, x, rfl, rfl, .inl (.inl hp), atI_nat hx0, ?_⟩
        refine ⟨c1, "of", tx, rfl, _, rfl, ?_⟩
        cases e1 : isStrD "of" c1 with
        | false =>
          refine iteT (no (Same.refl _) ?_)
          cases c2 with
          | str s =>
            show (isStrD "of" c1 && _) = false
            rw [e1]
            rfl
          | _ => rfl
        | true =>
          refine iteF ?_
          obtain ⟨la, lx, rfl, hla, tla⟩ := ha.list
          refine ⟨_, rfl, la, rfl, ⟨_, .inl (.inl hla)⟩, for_it walk_list (fun i σ H' => ∃ v4 v5, σ = [some (.ref wp), some (.ref la), some (.ref p), some (.bl too), v4, v5] ∧ Same H H' ∧ ∀ u ∈ ar.take i, isStrD (nameD (pt u 1)) c2 = false) ⟨_, _, rfl, Same.refl _, fun _ m => by cases m⟩ (fun i σ H' _ z => by obtain ⟨_, _, _, z, _⟩ := z; exact .inl (.inl (z _ _ hla))) ?_ ?_⟩
          · rintro i u0 σ H2 H3 hi ⟨v4, v5, rfl, s2, inv⟩ ⟨rfl, hui⟩
            obtain ⟨st, hst, tst⟩ := tla.at hui
            have mst := List.mem_of_getElem? hst
            have gs := ga st mst
            obtain ⟨n, en, enm⟩ := gs.n
            obtain ⟨a, xs, z9, ds9, rfl, hsa, ed, epn, ek, at_, h09, ta9⟩ := st_at (tst.same s2) gs.p
            have l9 : 1 ≤ ds9.length := by
              have q := congrArg PyData.str (rfl : n = n)
              cases ds9 with
              | nil =>
                rw [ed] at en
                exact absurd en (by show ¬ (PyData.none = .str n); intro y; cases y)
              | cons _ _ => exact Nat.succ_le_succ (Nat.zero_le _)
            obtain ⟨x1, hx1, tx1⟩ := at_ 1 (by omega)
            rw [en] at tx1
            obtain rfl : x1 = V.str n := tx1.strI
            have hp2 := s2 _ _ hp
            refine ⟨_, rfl, a, _, 1, _, rfl, rfl, .inl (.inl hsa), atI_nat hx1, _, rfl, p, ys, 1, y, rfl, rfl, .inl (.inl hp2), atI_nat hy0, n, c2, rfl, ty.same s2, _, rfl, ?_⟩
            cases eq : isStrD n c2 with
            | false =>
              refine iteF ⟨_, _, rfl, s2, fun u m => ?_⟩
              rw [List.take_add_one, hst] at m
              rcases List.mem_append.mp m with m | m
              · exact inv u m
              · have q : u = st := by simpa using m
                rw [q, en]
                exact eq
            | true =>
              obtain rfl := strD_of eq
              have eEnv : envAt (envOf ts (envB dB) ar) n = some (entP ts (envB dB) st) := envOf_hit hst (fun u m q => by
                have y := inv u m
                rw [q] at y
                have y : decide (n = n) = false := y
                rw [decide_eq_true rfl] at y
                cases y) (by rw [en]; rfl)
              have k : ∀ H', Same H H' → Q (.bl (inS c3 (entP ts (envB dB) st).1 || (too && inS c3 (entP ts (envB dB) st).2))) H' := fun H' s => by
                have q := k H' s
                have e9 : readsD (envOf ts (envB dB) ar) too (.tuple [c1, .str n, c3]) = (isStrD "of" c1 && (match envAt (envOf ts (envB dB) ar) n with | some p => inS c3 p.1 || (too && inS c3 p.2) | none => false)) := rfl
                rw [e9, e1, eEnv] at q
                exact q
              refine iteT ?_
              obtain ⟨tv, bv, hwp, wr⟩ := W.same s2
              refine ⟨_, rfl, wp, _, 0, tv, rfl, rfl, .inl (.inl hwp), ix0, _, rfl, wp, _, 1, bv, rfl, rfl, .inl (.inl hwp), ix1, _, rfl, ?_⟩
              refine ⟨tv, bv, .ref a, ts, dB, st, rfl, wr, tst.same s2, gs, fun H4 u f g s4 tu nf ng => ?_⟩
              obtain ⟨q, fv, gv, rfl, hq, tf, tg⟩ := tp2 tu
              obtain ⟨fa, rfl, hfa⟩ := nf.strs tf
              obtain ⟨g0, rfl, hga⟩ := ng.strs tg
              have hp4 := s4 _ _ hp2
              have s24 := s2.trans s4
              refine ⟨_, rfl, p, ys, 2, z, rfl, rfl, .inl (.inl hp4), atI_nat hz0, _, rfl, q, _, 0, _, rfl, rfl, .inl (.inl hq), ix0, fa, _, c3, rfl, rw_sq hfa, tz.same s24, _, rfl, ?_⟩
              have k := k _ s24
              cases e3 : inS c3 (entP ts (envB dB) st).1 with
              | true =>
                rw [e3, Bool.true_or] at k
                exact iteT k
              | false =>
                rw [e3, Bool.false_or] at k
                refine iteF ⟨_, rfl, ?_⟩
                cases too with
                | false => exact ⟨_, rfl, iteF k⟩
                | true =>
                  rw [Bool.true_and] at k
                  exact ⟨_, rfl, iteT ⟨_, rfl, p, ys, 2, z, rfl, rfl, .inl (.inl hp4), atI_nat hz0, _, rfl, q, _, 1, _, rfl, rfl, .inl (.inl hq), ix1, g0, _, c3, rfl, rw_sq hga, tz.same s24, k⟩⟩
          · rintro σ H2 ⟨v4, v5, rfl, s2, inv⟩
            rw [tla.len, List.take_length] at inv
            refine no s2 ?_
            cases c2 with
            | str s =>
              have eEnv : envAt (envOf ts (envB dB) ar) s = none := envOf_miss fun u m q => by
                have y := inv u m
                rw [q] at y
                have y : decide (s = s) = false := y
                rw [decide_eq_true rfl] at y
                cases y
              show (isStrD "of" c1 && (match envAt (envOf ts (envB dB) ar) s with | some p => inS c3 p.1 || (too && inS c3 p.2) | none => false)) = false
              rw [eEnv, Bool.and_false]
            | _ => rfl
      · refine ifT ?_ (iteT (no (Same.refl _) ?_))
        · rw [ly]
          have n : ¬ (V.int (ds.length : Int) = V.int 3) := fun z => l3 (by have q := V.int.inj z; omega)
          rw [decide_eq_false n]
          rfl
        · exact reads_len l3
    | none => exact iteT (iteT (no (Same.refl _) rfl))
    | bool _ => exact iteT (iteT (no (Same.refl _) rfl))
    | int _ => exact iteT (iteT (no (Same.refl _) rfl))
    | str _ => exact iteT (iteT (no (Same.refl _) rfl))
    | list _ => exact iteT (iteT (no (Same.refl _) rfl))
    | dict _ => exact iteT (iteT (no (Same.refl _) rfl))
end
end Fm

/-! ## K08LF -/
set_option Elab.async false
set_option maxRecDepth 100000
set_option maxHeartbeats 8000000
namespace Fm
open PySem L2
def NmEnv (e : Env) : Prop := ∀ q ∈ e, isNm q.1 = true
theorem envAt_nm {e : Env} {s : Str} {p : List Str × List Str} (h : NmEnv e) (q : envAt e s = some p) : isNm s = true := by
  obtain ⟨i, hi⟩ := env_mem q
  exact h (s, p) (List.mem_of_getElem? hi)
theorem reads_place {e : Env} (h : NmEnv e) (d : PyData) : readsD e true d = placeD e d := by
  cases d with
  | tuple ds =>
    by_cases l3 : ds.length = 3
    · obtain ⟨a, b, c, rfl⟩ : ∃ a b c, ds = [a, b, c] := by
        match ds, l3 with
        | [a, b, c], _ => exact ⟨a, b, c, rfl⟩
      cases b with
      | str s =>
        show (isStrD "of" a && (match envAt e s with | some p => inS c p.1 || (true && inS c p.2) | none => false)) = (isStrD "of" a && (isNm s && (match envAt e s with | some p => inS c p.1 || inS c p.2 | none => false)))
        cases q : envAt e s with
        | none => simp
        | some p => rw [envAt_nm h q]; simp
      | _ => rfl
    · rw [reads_len l3]
      cases q : placeD e (.tuple ds) with
      | false => rfl
      | true =>
        obtain ⟨a, n, z, _, q1, _⟩ := place_yes q
        rw [PyData.tuple.inj q1] at l3
        exact absurd rfl l3
  | _ => rfl
theorem term_eq {e : Env} (h : NmEnv e) (d : PyData) : (inI (-1000000000) 1000000000 d || readsD e false d) = termD e d := by
  unfold termD
  cases d with
  | tuple ds =>
    show (false || readsD e false (.tuple ds)) = _
    rw [Bool.false_or]
    by_cases l3 : ds.length = 3
    · obtain ⟨a, b, c, rfl⟩ : ∃ a b c, ds = [a, b, c] := by
        match ds, l3 with
        | [a, b, c], _ => exact ⟨a, b, c, rfl⟩
      cases b with
      | str s =>
        show (isStrD "of" a && (match envAt e s with | some p => inS c p.1 || (false && inS c p.2) | none => false)) = (if (isStrD "of" a && (isNm s && (match envAt e s with | some p => inS c p.1 || inS c p.2 | none => false))) = true then (match envAt e s with | some p => inS c p.1 | none => false) else false)
        cases q : envAt e s with
        | none => simp
        | some p =>
          rw [envAt_nm h q]
          simp only [Bool.true_and, Bool.false_and, Bool.or_false]
          cases isStrD "of" a <;> cases inS c p.1 <;> cases inS c p.2 <;> rfl
      | _ => rfl
    · rw [reads_len l3]
      cases q : placeD e (.tuple ds) with
      | false => rfl
      | true =>
        obtain ⟨a, n, z, _, q1, _⟩ := place_yes q
        rw [PyData.tuple.inj q1] at l3
        exact absurd rfl l3
  | int i =>
    show ((decide (-1000000000 ≤ i) && decide (i ≤ 1000000000)) || false) = (if false = true then _ else isValD (.int i))
    rw [Bool.or_false, if_neg Bool.false_ne_true]
    rfl
  | _ => rfl
theorem env_good {ts : List Tab} {dB : PyData} {ar : List PyData} (h : ∀ s ∈ ar, GoodB ts dB s) : NmEnv (envOf ts (envB dB) ar) := fun q m => by
  obtain ⟨s, ms, rfl⟩ := List.mem_map.mp m
  obtain ⟨n, en, e⟩ := (h s ms).n
  show isNm (nameD (pt s 1)) = true
  rw [en]
  exact e
section
variable {P : Program} {w : World} {K : PySem.W.Frag} {mg : Str → Option Value} {base : Heap} {CS CG CRd PD CN CBP CBB CBS : Addr}
def spTermL : Sp := fun vs H Q _ => ∃ (wp : Addr) (av v : V) (ts : List Tab) (dB d : PyData) (ar : List PyData), vs = [.ref wp, av, v] ∧ WpAt H wp ts dB ∧ Tp H av (.list ar) ∧ (∀ s ∈ ar, GoodB ts dB s) ∧ Tp H v d ∧ ∀ H', Same H H' → Q (.bl (termD (envOf ts (envB dB) ar) d)) H'
abbrev s_l_right_term : Stmt := topS 67
abbrev sc_l_right_termN : List Str := ["_law_world", "_law_around", "_law_thing"]
abbrev ps_l_right_term : List Str := ["_law_world", "_law_around", "_law_thing"]
theorem sc_l_right_term : FnScope sc_l_right_termN ps_l_right_term (defScope s_l_right_term) := ⟨rfl, rfl, rfl, by decide +kernel, rfl, by decide +kernel, by decide +kernel⟩
theorem ok_l_right_term {f : Addr} {fd : FuncData} (F : Fun K "_law_right_term" "_law_right_term" s_l_right_term f fd) (T : Txt K mg CS) (D_l_within : Df P w K mg base "_law_within" 2 ps_l_within spWithinL) (D_l_reads : Df P w K mg base "_law_reads" 3 ps_l_reads spReadsL) : FnOk P w K mg base CX0 4 f fd ps_l_right_term spTermL := by
  refine F.ok sc_l_right_term (fun vs H Q E h => ?_) (fun cdv A outer s H vs Q E hr h => ?_)
  · obtain ⟨_, _, _, _, _, _, _, rfl, _⟩ := h
    rfl
  · obtain ⟨wp, av, v, ts, dB, d, ar, rfl, W, ha, ga, hv, k⟩ := h
    rw [← term_eq (env_good ga)] at k
    refine ⟨_, (pss_one (ps_ret (pe_or (pe_d D_l_within (hr.mono (by decide)) (pa_cons (pv 2) (pa_cons (pe_op op_sub pe_int (pe_op op_pow pe_int pe_int)) (pa_cons (pe_op op_pow pe_int pe_int) pa_nil)))) (pe_one (pe_d D_l_reads (hr.mono (by decide)) (pa_cons (pv 0) (pa_cons (pv 1) (pa_cons (pv 2) (pa_cons pe_bl pa_nil))))))))), ?_⟩
    refine ⟨_, rfl, _, _, rfl, rfl, ⟨by decide, by decide, by decide⟩, _, _, rfl, rfl, _, _, rfl, rfl, ⟨by decide, by decide, by decide⟩, v, d, -1000000000, 1000000000, rfl, hv, _, rfl, ?_⟩
    cases e : inI (-1000000000) 1000000000 d with
    | true =>
      rw [e, Bool.true_or] at k
      exact iteT (k _ (Same.refl _))
    | false =>
      rw [e, Bool.false_or] at k
      exact iteF ⟨_, rfl, _, rfl, _, rfl, wp, av, v, false, ts, dB, d, ar, rfl, W, ha, ga, hv, k⟩
def spTermsL : Sp := fun vs H Q _ => ∃ (wp : Addr) (av v : V) (n : Nat) (ts : List Tab) (dB d : PyData) (ar : List PyData), vs = [.ref wp, av, v, .int (n : Nat)] ∧ WpAt H wp ts dB ∧ Tp H av (.list ar) ∧ (∀ s ∈ ar, GoodB ts dB s) ∧ Tp H v d ∧ ∀ H', Same H H' → Q (.bl (termsD (envOf ts (envB dB) ar) n d)) H'
abbrev s_l_right_terms : Stmt := topS 68
abbrev sc_l_right_termsN : List Str := ["_law_world", "_law_around", "_law_thing", "_law_many", "_law_term"]
abbrev ps_l_right_terms : List Str := ["_law_world", "_law_around", "_law_thing", "_law_many"]
theorem sc_l_right_terms : FnScope sc_l_right_termsN ps_l_right_terms (defScope s_l_right_terms) := ⟨rfl, rfl, rfl, by decide +kernel, rfl, by decide +kernel, by decide +kernel⟩
theorem ok_l_right_terms {f : Addr} {fd : FuncData} (F : Fun K "_law_right_terms" "_law_right_terms" s_l_right_terms f fd) (T : Txt K mg CS) (D_l_row : Df P w K mg base "_law_row" 1 ps_l_row spRowL) (D_l_right_term : Df P w K mg base "_law_right_term" 4 ps_l_right_term spTermL) : FnOk P w K mg base CX0 5 f fd ps_l_right_terms spTermsL := by
  refine F.ok sc_l_right_terms (fun vs H Q E h => ?_) (fun cdv A outer s H vs Q E hr h => ?_)
  · obtain ⟨_, _, _, _, _, _, _, _, rfl, _⟩ := h
    rfl
  · obtain ⟨wp, av, v, n, ts, dB, d, ar, rfl, W, ha, ga, hv, k⟩ := h
    refine ⟨_, (pss_cons (ps_if (PW.pt (pw_or (pt_not (pt_val (pe_d D_l_row (hr.mono (by decide)) (pa_cons (pv 2) pa_nil)))) (pw_or1 (pt_cmpR op_ne (pe_callB call_len_seq (by rfl) T.n_len (by decide +kernel) (pa_cons (pv 2) pa_nil)) (pv 3) (nomark _)))))
    (pss_one (ps_ret pe_bl))
    pss_nil)
  (pss_cons (ps_for PassesOwn.never rfl (pi_any (pv 2)) (pg_name (i := 4) sc_l_right_terms.nd rfl (Or.inl rfl))
    (pss_one (ps_if (pt_not (pt_val (pe_d D_l_right_term (hr.mono (by decide)) (pa_cons (pv 0) (pa_cons (pv 1) (pa_cons (pv 4) pa_nil))))))
      (pss_one (ps_ret pe_bl))
      pss_nil)))
  (pss_one (ps_ret pe_bl)))), ?_⟩
    have no : ∀ {H'}, Same H H' → termsD (envOf ts (envB dB) ar) n d = false → Q (.bl false) H' := fun s e => by
      have q := k _ s
      rw [e] at q
      exact q
    refine ⟨_, rfl, v, d, rfl, hv, fun H1 s1 => ⟨_, rfl, ?_⟩⟩
    cases er : isRowD d with
    | false => exact iteT (iteT (no s1 (by unfold termsD rowD3; rw [er]; rfl)))
    | true =>
      obtain ⟨a, xs, rfl, hx, ta⟩ := (hv.same s1).row er
      have lx := ta.len
      refine iteF ⟨_, rfl, a, xs, rfl, rw_sq hx, _, rfl, rfl, _, rfl, ifn (fun ne => ?_) fun eq => ?_⟩
      · refine no s1 ?_
        have z : rowD3 n n d = false := by
          unfold rowD3
          rw [er, ← lx]
          have : ¬ ((n : Int) ≤ (xs.length : Int) ∧ (xs.length : Int) ≤ (n : Int)) := fun q => ne (by rw [show (xs.length : Int) = (n : Int) by omega])
          by_cases q1 : (n : Int) ≤ (xs.length : Int)
          · rw [decide_eq_true q1, decide_eq_false (fun q2 => this ⟨q1, q2⟩)]
            rfl
          · rw [decide_eq_false q1]
            rfl
        unfold termsD
        rw [z]
        rfl
      have eln : (xs.length : Int) = (n : Int) := V.int.inj eq
      have e0 : termsD (envOf ts (envB dB) ar) n d = (partsD d).all (termD (envOf ts (envB dB) ar)) := by
        unfold termsD rowD3
        rw [er, ← lx, decide_eq_true (show (n : Int) ≤ (xs.length : Int) by omega), decide_eq_true (show (xs.length : Int) ≤ (n : Int) by omega)]
        rfl
      refine ⟨_, rfl, a, xs, rfl, any_of (K := K) (rw_sq hx) (Same.refl _) fun J G gm wk => ?_⟩
      refine for_it wk (fun i σ H' => ∃ v4, σ = [some (.ref wp), some av, some (.ref a), some (.int (n : Nat)), v4] ∧ Same H1 H' ∧ ((partsD d).take i).all (termD (envOf ts (envB dB) ar)) = true) ⟨_, rfl, Same.refl _, rfl⟩ (fun i σ H' _ z => by obtain ⟨_, _, z, _⟩ := z; exact gm H' z) ?_ ?_
      · rintro i x σ H2 H3 hi ⟨v4, rfl, s2, inv⟩ ⟨rfl, hxi⟩
        obtain ⟨c, hc, tc⟩ := ta.at hxi
        have s12 := s1.trans s2
        refine ⟨_, rfl, _, rfl, _, rfl, wp, av, x, ts, dB, c, ar, rfl, W.same s12, ha.same s12, ga, tc.same s2, fun H4 s4 => ⟨_, rfl, ?_⟩⟩
        cases et : termD (envOf ts (envB dB) ar) c with
        | false =>
          refine iteT (no (s12.trans s4) ?_)
          rw [e0, List.all_eq_false]
          exact ⟨c, List.mem_of_getElem? hc, by rw [et]; exact Bool.false_ne_true⟩
        | true =>
          refine iteF ⟨_, rfl, s2.trans s4, ?_⟩
          rw [List.take_add_one, hc, List.all_append, inv]
          show (true && ([c].all _)) = true
          rw [List.all_cons, et]
          rfl
      · rintro σ H2 ⟨v4, rfl, s2, inv⟩
        rw [lx, List.take_length] at inv
        have q := k _ (s1.trans s2)
        rw [e0, inv] at q
        exact q
end
end Fm

/-! ## K08LG -/
set_option Elab.async false
set_option maxRecDepth 100000
set_option maxHeartbeats 8000000
namespace Fm
open PySem L2
theorem prod_yes {e : Env} {ds : List PyData} (h : prodD e (.tuple ds) = true) : ds.length = 2 := by
  unfold prodD at h
  split at h
  · rename_i m fs e1
    rw [PyData.tuple.inj e1]
    rfl
  · cases h
section
variable {P : Program} {w : World} {K : PySem.W.Frag} {mg : Str → Option Value} {base : Heap} {CS CG CRd PD CN CBP CBB CBS : Addr}
def spProdL : Sp := fun vs H Q _ => ∃ (wp : Addr) (av v : V) (ts : List Tab) (dB d : PyData) (ar : List PyData), vs = [.ref wp, av, v] ∧ WpAt H wp ts dB ∧ Tp H av (.list ar) ∧ (∀ s ∈ ar, GoodB ts dB s) ∧ Tp H v d ∧ ∀ H', Same H H' → Q (.bl (prodD (envOf ts (envB dB) ar) d)) H'
abbrev s_l_right_product : Stmt := topS 69
abbrev sc_l_right_productN : List Str := ["_law_world", "_law_around", "_law_thing", "_law_factor", "_law_statement", "_law_sums", "_law_many"]
abbrev ps_l_right_product : List Str := ["_law_world", "_law_around", "_law_thing"]
theorem sc_l_right_product : FnScope sc_l_right_productN ps_l_right_product (defScope s_l_right_product) := ⟨rfl, rfl, rfl, by decide +kernel, rfl, by decide +kernel, by decide +kernel⟩
theorem ok_l_right_product {f : Addr} {fd : FuncData} (F : Fun K "_law_right_product" "_law_right_product" s_l_right_product f fd) (T : Txt K mg CS) (D_l_row : Df P w K mg base "_law_row" 1 ps_l_row spRowL) (D_l_within : Df P w K mg base "_law_within" 2 ps_l_within spWithinL) (D_l_reads : Df P w K mg base "_law_reads" 3 ps_l_reads spReadsL) (D_l_names_there : Df P w K mg base "_law_names_there" 2 ps_l_names_there spThere) : FnOk P w K mg base CX0 4 f fd ps_l_right_product spProdL := by
  refine F.ok sc_l_right_product (fun vs H Q E h => ?_) (fun cdv A outer s H vs Q E hr h => ?_)
  · obtain ⟨_, _, _, _, _, _, _, rfl, _⟩ := h
    rfl
  · obtain ⟨wp, av, v, ts, dB, d, ar, rfl, W, ha, ga, hv, k⟩ := h
    refine ⟨_, (pss_cons (ps_if (PW.pt (pw_or (pt_not (pt_val (pe_callB call_isi (by rfl) T.n_isinstance (by decide +kernel) (pa_cons (pv 2) (pa_cons (pe_bltn (v := .ty "tuple") (by rfl) T.n_tuple (by decide +kernel) rfl) pa_nil))))) (pw_or (pt_cmpR op_ne (pe_callB call_len_seq (by rfl) T.n_len (by decide +kernel) (pa_cons (pv 2) pa_nil)) pe_int (nomark _)) (pw_or (pt_not (pt_val (pe_d D_l_row (hr.mono (by decide)) (pa_cons (pe_ix ix_tup (pv 2) pe_int (fun _ _ => rfl)) pa_nil)))) (pw_or1 (pt_cmpR op_gt (pe_callB call_len_seq (by rfl) T.n_len (by decide +kernel) (pa_cons (pe_ix ix_tup (pv 2) pe_int (fun _ _ => rfl)) pa_nil)) pe_int (nomark _)))))))
    (pss_one (ps_ret pe_bl))
    pss_nil)
  (pss_cons (ps_if (PW.pt (pw_or (pt_not (pt_val (pe_d D_l_within (hr.mono (by decide)) (pa_cons (pe_ix ix_tup (pv 2) pe_int (fun _ _ => rfl)) (pa_cons (pe_un un_neg pe_int) (pa_cons pe_int pa_nil)))))) (pw_or1 (pt_cmpR op_eq (pe_ix ix_tup (pv 2) pe_int (fun _ _ => rfl)) pe_int (nomark _)))))
    (pss_one (ps_ret pe_bl))
    pss_nil)
  (pss_cons (ps_for PassesOwn.never rfl (pi_any (pe_ix ix_tup (pv 2) pe_int (fun _ _ => rfl))) (pg_name (i := 3) sc_l_right_product.nd rfl (Or.inl rfl))
    (pss_one (ps_if (pt_not (pt_val (pe_d D_l_reads (hr.mono (by decide)) (pa_cons (pv 0) (pa_cons (pv 1) (pa_cons (pv 3) (pa_cons pe_bl pa_nil)))))))
      (pss_one (ps_ret pe_bl))
      pss_nil)))
  (pss_cons (ps_for PassesOwn.never rfl (pi_list (pv 1)) (pg_name (i := 4) sc_l_right_product.nd rfl (Or.inr rfl))
    (pss_cons (ps_set (i := 5) sc_l_right_product.nd rfl (Or.inr rfl) (pe_ix ix_tup (pe_d D_l_names_there (hr.mono (by decide)) (pa_cons (pe_ix ix_tup (pv 0) pe_int (fun _ _ => rfl)) (pa_cons (pe_ix ix_tup (pv 0) pe_int (fun _ _ => rfl)) (pa_cons (pv 4) pa_nil)))) pe_int (fun _ _ => rfl)))
    (pss_cons (ps_set (i := 6) sc_l_right_product.nd rfl (Or.inl rfl) (pe_callB call_len_seq (by rfl) T.n_len (by decide +kernel) (pa_cons (pe_lc (own := [("_law_factor", 3)]) (g := gName 3) (tt := _) (by rfl) sc_l_right_product.nd (pi_any (pe_ix ix_tup (pv 2) pe_int (fun _ _ => rfl))) (blkOk_by (own := [("_law_factor", 3)]) (N := sc_l_right_productN) (sc := defScope s_l_right_product) (by decide +kernel)) (fun _ _ _ _ _ => pg_name (i := 3) sc_l_right_product.nd rfl (Or.inl rfl)) (fun _ _ _ _ _ => (pts_one (PW.pt (pw_and (pt_cmpR op_eq (pe_ix (ixK_tup (K := K)) (pv 3) pe_int (fun _ _ => rfl)) (pe_ix (ixK_tup (K := K)) (pv 4) pe_int (fun _ _ => rfl)) (nomark _)) (pw_and1 (pt_cmpR (op_inT (K := K) hr.units) (pe_ix (ixK_tup (K := K)) (pv 3) pe_int (fun _ _ => rfl)) (pv 5) (by rfl))))))) (fun _ _ _ _ _ => (pv 3))) pa_nil)))
    (pss_one (ps_if (PW.pt (pw_and (pt_cmpR op_gt (pe_callB call_len_seq (by rfl) T.n_len (by decide +kernel) (pa_cons (pv 5) pa_nil)) pe_int (nomark _)) (pw_and1 (pt_cmpR op_eq (pv 6) pe_int (nomark _)))))
      (pss_one (ps_ret pe_bl))
      pss_nil)))))
  (pss_one (ps_ret pe_bl)))))), ?_⟩
    refine ⟨_, rfl, _, _, _, _, _, rfl, .ty _, hv.ty (K := K), kit_ty (kit_d (by simp)), _, rfl, ?_⟩
    have no : ∀ {H'}, Same H H' → prodD (envOf ts (envB dB) ar) d = false → Q (.bl false) H' := fun s e => by
      have q := k _ s
      rw [e] at q
      exact q
    cases d with
    | tuple ds =>
      obtain ⟨p, ys, rfl, hp, tys⟩ := hv.tuple
      have ly := tys.len
      refine iteF ⟨_, rfl, p, ys, rfl, .inr (.inl (.inl hp)), rfl, _, rfl, ?_⟩
      by_cases l2 : ds.length = 2
      · refine ifF (by rw [ly, l2]; rfl) ?_
        obtain ⟨m, fs, rfl⟩ : ∃ c1 c2, ds = [c1, c2] := by
          match ds, l2 with
          | [c1, c2], _ => exact ⟨c1, c2, rfl⟩
        obtain ⟨x, hx0, tx⟩ := tys.to (i := 0) rfl
        obtain ⟨y, hy0, ty⟩ := tys.to (i := 1) rfl
        have eP : prodD (envOf ts (envB dB) ar) (.tuple [m, fs]) = (multD m && (rowD3 0 3 fs && ((partsD fs).all (placeD (envOf ts (envB dB) ar)) && (envOf ts (envB dB) ar).all fun p => p.2.2.isEmpty || (partsD fs).any (sumOfD p)))) := rfl
        refine ⟨_, rfl, p, ys, 1, y, rfl, rfl, .inl (.inl hp), atI_nat hy0, y, fs, rfl, ty, fun H1 s1 => ⟨_, rfl, ?_⟩⟩
        cases er : isRowD fs with
        | false => exact iteT (iteT (no s1 (by rw [eP]; unfold rowD3; rw [er]; simp)))
        | true =>
          have hp1 := s1 _ _ hp
          obtain ⟨a, xs, rfl, hx, ta⟩ := (ty.same s1).row er
          have lx := ta.len
          refine iteF ⟨_, rfl, p, ys, 1, _, rfl, rfl, .inl (.inl hp1), atI_nat hy0, a, xs, rfl, rw_sq hx, _, _, rfl, rfl, _, rfl, ifd (fun h3 => no s1 ?_) fun h3 => ?_⟩
          · rw [eP]
            unfold rowD3
            rw [← lx, decide_eq_false (show ¬ (xs.length : Int) ≤ 3 by omega)]
            simp
          have e3 : rowD3 0 3 fs = true := by
            unfold rowD3
            rw [er, ← lx, decide_eq_true (show (0 : Int) ≤ (xs.length : Int) by omega), decide_eq_true (show (xs.length : Int) ≤ 3 by omega)]
            rfl
          refine ⟨_, rfl, p, ys, 0, x, rfl, rfl, .inl (.inl hp1), atI_nat hx0, 1000, rfl, x, m, -1000, 1000, rfl, tx.same s1, _, rfl, ?_⟩
          cases em : inI (-1000) 1000 m with
          | false =>
            refine iteT (iteT (no s1 ?_))
            have z : multD m = false := by
              cases m with
              | int i =>
                have em : (decide (-1000 ≤ i) && decide (i ≤ 1000)) = false := em
                show (decide (i ≠ 0) && (decide (-1000 ≤ i) && decide (i ≤ 1000))) = false
                rw [em, Bool.and_false]
              | _ => rfl
            rw [eP, z]
            rfl
          | true =>
            obtain ⟨i, rfl⟩ : ∃ i, m = .int i := by
              cases m with
              | int i => exact ⟨i, rfl⟩
              | _ => cases em
            obtain rfl : x = V.int i := tx.intI
            have em : (decide (-1000 ≤ i) && decide (i ≤ 1000)) = true := em
            refine iteF ⟨_, rfl, p, ys, 0, _, rfl, rfl, .inl (.inl hp1), atI_nat hx0, rfl, _, rfl, ifd (fun z0 => no s1 ?_) fun nz => ?_⟩
            · have ei : i = 0 := V.int.inj z0
              rw [eP, ei]
              rfl
            have eM : multD (.int i) = true := by
              show (decide (i ≠ 0) && (decide (-1000 ≤ i) && decide (i ≤ 1000))) = true
              rw [em, decide_eq_true (show i ≠ 0 from fun q => nz (by rw [q]))]
              rfl
            rw [eM, e3, Bool.true_and, Bool.true_and] at eP
            refine ⟨_, rfl, p, ys, 1, _, rfl, rfl, .inl (.inl hp1), atI_nat hy0, a, xs, rfl, any_of (K := K) (rw_sq hx) (Same.refl _) fun J G gm wk => ?_⟩
            refine for_it wk (fun j σ H' => ∃ v3, σ = [some (.ref wp), some av, some (.ref p), v3, none, none, none] ∧ Same H1 H' ∧ ((partsD fs).take j).all (placeD (envOf ts (envB dB) ar)) = true) ⟨_, rfl, Same.refl _, rfl⟩ (fun j σ H' _ z => by obtain ⟨_, _, z, _⟩ := z; exact gm H' z) ?_ ?_
            · rintro j u σ H2 H3 hj ⟨v3, rfl, s2, inv⟩ ⟨rfl, huj⟩
              obtain ⟨c, hc, tc⟩ := ta.at huj
              have s12 := s1.trans s2
              refine ⟨_, rfl, _, rfl, _, rfl, wp, av, u, true, ts, dB, c, ar, rfl, W.same s12, ha.same s12, ga, tc.same s2, fun H4 s4 => ⟨_, rfl, ?_⟩⟩
              rw [reads_place (env_good ga)]
              cases et : placeD (envOf ts (envB dB) ar) c with
              | false =>
                refine iteT (no (s12.trans s4) ?_)
                rw [eP]
                have z : (partsD fs).all (placeD (envOf ts (envB dB) ar)) = false := by
                  rw [List.all_eq_false]
                  exact ⟨c, List.mem_of_getElem? hc, by rw [et]; exact Bool.false_ne_true⟩
                rw [z]
                rfl
              | true =>
                refine iteF ⟨_, rfl, s2.trans s4, ?_⟩
                rw [List.take_add_one, hc, List.all_append, inv]
                show (true && ([c].all _)) = true
                rw [List.all_cons, et]
                rfl
            rintro σ H2 ⟨v3, rfl, s2, inv⟩
            rw [lx, List.take_length] at inv
            rw [inv, Bool.true_and] at eP
            have s12 := s1.trans s2
            obtain ⟨la, lxs, rfl, hla, tla⟩ := (ha.same s12).list
            have lla := tla.len
            refine ⟨_, rfl, la, rfl, ⟨_, .inl (.inl hla)⟩, for_it walk_list (fun j σ H' => ∃ v3 v4 v5 v6, σ = [some (.ref wp), some (.ref la), some (.ref p), v3, v4, v5, v6] ∧ Same H2 H' ∧ ((envOf ts (envB dB) ar).take j).all (fun p => p.2.2.isEmpty || (partsD fs).any (sumOfD p)) = true) ⟨_, _, _, _, rfl, Same.refl _, rfl⟩ (fun j σ H' _ z => by obtain ⟨_, _, _, _, _, z, _⟩ := z; exact .inl (.inl (z _ _ hla))) ?_ ?_⟩
            · rintro j u σ H3 H4 hj ⟨v3, v4, v5, v6, rfl, s3, inv2⟩ ⟨rfl, huj⟩
              obtain ⟨st, hst, tst⟩ := tla.at huj
              have gs := ga st (List.mem_of_getElem? hst)
              have s23 := s12.trans s3
              obtain ⟨tv, bv, hwp, wr⟩ := W.same s23
              refine ⟨_, rfl, wp, _, 0, tv, rfl, rfl, .inl (.inl hwp), ix0, _, rfl, wp, _, 1, bv, rfl, rfl, .inl (.inl hwp), ix1, _, rfl, ?_⟩
              refine ⟨tv, bv, u, ts, dB, st, rfl, wr, tst.same s3, gs, fun H5 u2 f g s5 tu nf ng => ?_⟩
              obtain ⟨q, fv, gv, rfl, hq, tf, tg⟩ := tp2 tu
              obtain ⟨g0, rfl, hga⟩ := ng.strs tg
              refine ⟨q, _, 1, _, rfl, rfl, .inl (.inl hq), ix1, ?_⟩
              have s15 := s2.trans (s3.trans s5)
              have hp5 := s15 _ _ hp1
              obtain ⟨n, en, enm⟩ := gs.n
              obtain ⟨a9, x9, z9, ds9, rfl, hsa, ed9, epn, ek, at_, h09, ta9⟩ := st_at (tst.same s3) gs.p
              have l9 : 1 ≤ ds9.length := by
                cases ds9 with
                | nil =>
                  rw [ed9] at en
                  exact absurd en (by show ¬ (PyData.none = .str n); intro y; cases y)
                | cons _ _ => exact Nat.succ_le_succ (Nat.zero_le _)
              obtain ⟨w1, hw1, tw1⟩ := at_ 1 (by omega)
              rw [en] at tw1
              obtain rfl : w1 = V.str n := tw1.strI
              have hsa5 := s5 _ _ hsa
              refine ⟨_, rfl, p, ys, 1, _, rfl, rfl, .inl (.inl hp5), atI_nat hy0, a, xs, rfl, any_of (K := K) (rw_sq hx) s15 fun J G gm wk D hD => ?_⟩
              refine lc_it wk (fun i H' => Same H5 H' ∧ ∃ zs : List V, H' D = some (.lst zs) ∧ zs.length ≤ i ∧ zs.isEmpty = !((partsD fs).take i).any (sumOfD (n, entP ts (envB dB) st))) ⟨same_new _ hD, [], upd_same, Nat.le_refl _, rfl⟩ (fun i H' _ z => gm H' (s15.trans z.1)) ?_ ?_
              · rintro i u6 H6 H7 hi ⟨s6, zs, dz, lz, ez⟩ ⟨rfl, hui⟩
                obtain ⟨c, hc, tc⟩ := ta.at hui
                obtain ⟨c1, n', c3, _, rfl, _⟩ := place_yes (List.all_eq_true.mp inv c (List.mem_of_getElem? hc))
                obtain ⟨pc, y1, y2, y3, rfl, hpc, t1, t2, t3⟩ := tp3 (tc.same (s15.trans s6))
                obtain rfl : y2 = V.str n' := t2.strI
                have eS : sumOfD (n, entP ts (envB dB) st) (.tuple [c1, .str n', c3]) = (decide (n = n') && inS c3 (entP ts (envB dB) st).2) := rfl
                have eT : ((partsD fs).take (i + 1)).any (sumOfD (n, entP ts (envB dB) st)) = (((partsD fs).take i).any (sumOfD (n, entP ts (envB dB) st)) || sumOfD (n, entP ts (envB dB) st) (.tuple [c1, .str n', c3])) := by
                  rw [List.take_add_one, hc, List.any_append]
                  show (_ || ([PyData.tuple [c1, .str n', c3]].any _)) = _
                  rw [List.any_cons, List.any_nil, Bool.or_false]
                have skip : sumOfD (n, entP ts (envB dB) st) (.tuple [c1, .str n', c3]) = false → Same H5 H7 ∧ ∃ zs : List V, H7 D = some (.lst zs) ∧ zs.length ≤ i + 1 ∧ zs.isEmpty = !((partsD fs).take (i + 1)).any (sumOfD (n, entP ts (envB dB) st)) := fun e => ⟨s6, zs, dz, Nat.le_succ_of_le lz, by rw [eT, e, Bool.or_false]; exact ez⟩
                refine ⟨rfl, _, rfl, pc, _, 1, _, rfl, rfl, .inl (.inl hpc), ix1, _, rfl, a9, x9, 1, _, rfl, rfl, .inl (.inl (s6 _ _ hsa5)), atI_nat hw1, rfl, _, rfl, ifd (fun yes => ?_) fun nn => ?_⟩
                rotate_left
                · exact iteF (skip (by rw [eS, decide_eq_false (fun q => nn (by rw [q]))]; rfl))
                have enn : n' = n := V.str.inj yes
                subst enn
                rw [decide_eq_true rfl, Bool.true_and] at eS
                refine ⟨_, rfl, pc, _, 2, y3, rfl, rfl, .inl (.inl hpc), ix2, _, rfl, g0, _, c3, rfl, rw_sq (hga.same s6), t3, _, rfl, ?_⟩
                cases e3 : inS c3 (entP ts (envB dB) st).2 with
                | false => exact iteF (skip (by rw [eS, e3]))
                | true =>
                  have bz : zs.length < sizeLine := Nat.lt_of_le_of_lt (show _ ≤ 3 by omega) (by decide)
                  refine iteT ⟨_, rfl, _, dz, bz, same_put s6 _ hD, _, upd_same, ?_, ?_⟩
                  · rw [List.length_append]
                    show zs.length + 1 ≤ i + 1
                    omega
                  · rw [eT, eS, e3, Bool.or_true]
                    cases zs <;> rfl
              rintro H6 ⟨s6, zs, dz, lz, ez⟩
              rw [lx, List.take_length] at ez
              have s16 := s5.trans s6
              have eq : (envOf ts (envB dB) ar)[j]? = some (n, entP ts (envB dB) st) := by
                unfold envOf
                rw [List.getElem?_map, hst]
                show some (nameD (pt st 1), _) = _
                rw [en]
                rfl
              have next : (((entP ts (envB dB) st).2.isEmpty || (partsD fs).any (sumOfD (n, entP ts (envB dB) st))) = true) → ((envOf ts (envB dB) ar).take (j + 1)).all (fun p => p.2.2.isEmpty || (partsD fs).any (sumOfD p)) = true := fun e => by
                rw [List.take_add_one, eq, List.all_append, inv2]
                show (true && ([(n, entP ts (envB dB) st)].all _)) = true
                rw [List.all_cons]
                show (true && (((entP ts (envB dB) st).2.isEmpty || (partsD fs).any (sumOfD (n, entP ts (envB dB) st))) && true)) = true
                rw [e]
                rfl
              have bad : (((entP ts (envB dB) st).2.isEmpty || (partsD fs).any (sumOfD (n, entP ts (envB dB) st))) = false) → prodD (envOf ts (envB dB) ar) (.tuple [.int i, fs]) = false := fun e => by
                rw [eP, List.all_eq_false]
                exact ⟨_, List.mem_of_getElem? eq, by show ¬ (((entP ts (envB dB) st).2.isEmpty || (partsD fs).any (sumOfD (n, entP ts (envB dB) st))) = true); rw [e]; exact Bool.false_ne_true⟩
              refine ⟨D, zs, rfl, rw_sq (.inl dz), ?_⟩
              refine ⟨_, rfl, g0, _, rfl, rw_sq (hga.same s6), _, _, rfl, rfl, _, rfl, ifd (fun pos => ?_) fun np => ?_⟩
              · have hne : (entP ts (envB dB) st).2.isEmpty = false := by
                  cases y : (entP ts (envB dB) st).2 with
                  | nil => rw [y] at pos; exact absurd pos (by show ¬ ((0 : Int) < ((0 : Nat) : Int)); omega)
                  | cons _ _ => rfl
                rw [hne, Bool.false_or] at next bad
                refine ⟨_, rfl, rfl, _, rfl, ifd (fun z0 => ?_) fun nz0 => ?_⟩
                · have z0 : ((zs.length : Nat) : Int) = 0 := V.int.inj z0
                  have e0 : zs = [] := List.eq_nil_of_length_eq_zero (by omega)
                  rw [e0] at ez
                  refine no (s12.trans (s3.trans s16)) (bad ?_)
                  cases y : (partsD fs).any (sumOfD (n, entP ts (envB dB) st)) with
                  | false => rfl
                  | true => rw [y] at ez; cases ez
                · refine ⟨_, _, _, _, rfl, s3.trans s16, next ?_⟩
                  cases y : (partsD fs).any (sumOfD (n, entP ts (envB dB) st)) with
                  | true => rfl
                  | false =>
                    rw [y] at ez
                    cases zs with
                    | nil => exact absurd rfl nz0
                    | cons _ _ => cases ez
              · have he : (entP ts (envB dB) st).2.isEmpty = true := by
                  cases y : (entP ts (envB dB) st).2 with
                  | nil => rfl
                  | cons _ _ =>
                    rw [y] at np
                    exact absurd (show (0 : Int) < _ by rw [List.map_cons, List.length_cons]; omega) np
                rw [he, Bool.true_or] at next
                exact iteF ⟨_, _, _, _, rfl, s3.trans s16, next rfl⟩
            · rintro σ H3 ⟨v3, v4, v5, v6, rfl, s3, inv2⟩
              rw [lla, show ar.length = (envOf ts (envB dB) ar).length by unfold envOf; rw [List.length_map], List.take_length] at inv2
              have qq := k _ (s12.trans s3)
              rw [eP, inv2] at qq
              exact qq
      · refine ifT ?_ (iteT (no (Same.refl _) ?_))
        · rw [ly]
          have n : ¬ (V.int (ds.length : Int) = V.int 2) := fun z => l2 (by have q := V.int.inj z; omega)
          rw [decide_eq_false n]
          rfl
        · cases q : prodD (envOf ts (envB dB) ar) (.tuple ds) with
          | false => rfl
          | true => exact absurd (prod_yes q) l2
    | none => exact iteT (iteT (no (Same.refl _) rfl))
    | bool _ => exact iteT (iteT (no (Same.refl _) rfl))
    | int _ => exact iteT (iteT (no (Same.refl _) rfl))
    | str _ => exact iteT (iteT (no (Same.refl _) rfl))
    | list _ => exact iteT (iteT (no (Same.refl _) rfl))
    | dict _ => exact iteT (iteT (no (Same.refl _) rfl))
end
end Fm

/-! ## K08LH -/
set_option Elab.async false
set_option maxRecDepth 100000
set_option maxHeartbeats 8000000
namespace Fm
open PySem L2
/-- a statement with its path and the statements around it -/
abbrev Ent := List Nat × PyData × List PyData
def entD (e : Ent) : PyData := .tuple [natsD e.1, e.2.1, .list e.2.2]
def flatL (f : List Nat → PyData → List Ent) (path : List Nat) : Nat → List PyData → List Ent
  | _, [] => []
  | i, d :: ds => f (path ++ [i]) d ++ flatL f path (i + 1) ds
def innerL (ar : List PyData) (d : PyData) : List PyData := if kindD d = "same" then ar else ar ++ [d]
def goesIn (d : PyData) : Bool := formD d && !decide (kindD d = "put")
def bodyD (d : PyData) : List PyData := partsD ((partsD d).getLastD .none)
def flatS : Nat → List Nat → List PyData → PyData → List Ent
  | 0, p, ar, d => [(p, d, ar)]
  | n + 1, p, ar, d => (p, d, ar) :: if goesIn d = true then flatL (fun p' d' => flatS n p' (innerL ar d) d') p 0 (bodyD d) else []
def capped (es fs : List Ent) : List Ent := es ++ fs.take (42 - es.length)
theorem capped_nil (es : List Ent) : capped es [] = es := by
  unfold capped
  rw [List.take_nil, List.append_nil]
theorem capped_full {es fs : List Ent} (h : 41 < es.length) : capped es fs = es := by
  unfold capped
  rw [show 42 - es.length = 0 by omega, List.take_zero, List.append_nil]
theorem capped_app (es a b : List Ent) : capped (capped es a) b = capped es (a ++ b) := by
  unfold capped
  rw [List.append_assoc, List.take_append, List.length_append, List.length_take]
  have e : 42 - (es.length + min (42 - es.length) a.length) = 42 - es.length - a.length := by omega
  rw [e]
theorem capped_len {es fs : List Ent} (h : es.length ≤ 42) : (capped es fs).length ≤ 42 := by
  unfold capped
  rw [List.length_append, List.length_take]
  omega
theorem capped_cons {es : List Ent} {x : Ent} {fs : List Ent} (h : es.length ≤ 41) : capped es (x :: fs) = capped (es ++ [x]) fs := by
  unfold capped
  rw [List.length_append, show 42 - es.length = (42 - (es.length + [x].length)) + 1 by show _ = 42 - (es.length + 1) + 1; omega, List.take_succ_cons, List.append_assoc]
  rfl
theorem flatL_snoc {f : List Nat → PyData → List Ent} {path : List Nat} : ∀ {ds : List PyData} {i : Nat} {d : PyData}, flatL f path i (ds ++ [d]) = flatL f path i ds ++ f (path ++ [i + ds.length]) d
  | [], i, d => by
    show f (path ++ [i]) d ++ [] = [] ++ f (path ++ [i + 0]) d
    rw [List.append_nil, List.nil_append, Nat.add_zero]
  | x :: ds, i, d => by
    show f (path ++ [i]) x ++ flatL f path (i + 1) (ds ++ [d]) = (f (path ++ [i]) x ++ flatL f path (i + 1) ds) ++ f (path ++ [i + (ds.length + 1)]) d
    rw [flatL_snoc, List.append_assoc, show i + 1 + ds.length = i + (ds.length + 1) by omega]
structure GrowX (x : Addr) (F H F' H' : Hp) : Prop where
  ff : Same F F'
  fh : Same F' H'
  hh : ∀ a o, a ≠ x → F a = none → H a = some o → F' a = none ∧ H' a = some o
  no : F' x = none
theorem GrowX.trans {x : Addr} {F H F1 H1 F2 H2 : Hp} (a : GrowX x F H F1 H1) (b : GrowX x F1 H1 F2 H2) : GrowX x F H F2 H2 :=
  ⟨a.ff.trans b.ff, b.fh, fun c o n e q => b.hh c o n (a.hh c o n e q).1 (a.hh c o n e q).2, b.no⟩
theorem GrowX.of {x : Addr} {F H F' H' : Hp} (g : Grow F H F' H') (n : F' x = none) : GrowX x F H F' H' := ⟨g.ff, g.fh, fun a o _ e q => g.hh a o e q, n⟩
theorem GrowX.put {x : Addr} {F H : Hp} (s : Same F H) (n : F x = none) (o : HO) : GrowX x F H F (upd H x o) := ⟨Same.refl _, same_put s _ n, fun a u ne e q => ⟨e, by rw [upd_ne ne]; exact q⟩, n⟩
theorem GrowX.same {x : Addr} {F H H' : Hp} (f : Same F H) (n : F x = none) (s : Same H H') : GrowX x F H F H' := ⟨Same.refl _, f.trans s, fun a o _ e q => ⟨e, s _ _ q⟩, n⟩
theorem form_pt {d : PyData} (h : hasPD d = true) : (partsD d).getLastD .none = pt d ((partsD d).length - 1) := lastD_pt
section
variable {P : Program} {w : World} {K : PySem.W.Frag} {mg : Str → Option Value} {base : Heap} {CS CG CRd PD CN CBP CBB CBS : Addr}
def spFlat (n : Nat) : Sp := fun vs H Q _ => ∃ (F : Hp) (v av : V) (pa D : Addr) (d : PyData) (p : List Nat) (ar : List PyData) (es : List Ent) (ys : List V), vs = [v, .ref pa, av, .ref D] ∧ Same F H ∧ Tp F v d ∧ Tp F (.ref pa) (natsD p) ∧ Tp F av (.list ar) ∧ F D = none ∧ H D = some (.lst ys) ∧ TpAll F ys (es.map entD) ∧ es.length ≤ 42 ∧ 1 ≤ n ∧ p.length + n = 10 ∧ ar.length < p.length ∧ mst d ≤ 100000 ∧
  ∀ F' H' ys', GrowX D F H F' H' → H' D = some (.lst ys') → TpAll F' ys' ((capped es (flatS (n - 1) p ar d)).map entD) → Q .non H'
abbrev s_l_flat : Stmt := topS 63
abbrev sc_l_flatN : List Str := ["_law_statement", "_law_path", "_law_around", "_law_flat_here", "_law_inner", "_law_k"]
abbrev ps_l_flat : List Str := ["_law_statement", "_law_path", "_law_around", "_law_flat_here"]
theorem sc_l_flat : FnScope sc_l_flatN ps_l_flat (defScope s_l_flat) := ⟨rfl, rfl, rfl, by decide +kernel, rfl, by decide +kernel, by decide +kernel⟩
theorem ok_l_flat {f : Addr} {fd : FuncData} (F : Fun K "_law_flat" "_law_flat" s_l_flat f fd) (T : Txt K mg CS) (hm : mg "_law_flat" = some (.ref f)) (hb : Binds K fd ps_l_flat []) (D_l_form : Df P w K mg base "_law_form" 2 ps_l_form spForm) : ∀ n, FnOk P w K mg base CX0 (n + 3) f fd ps_l_flat (spFlat n)
  | 0 => fn_no fun vs H Q E h => by
    obtain ⟨_, _, _, _, _, _, _, _, _, _, _, _, _, _, _, _, _, _, _, h, _⟩ := h
    exact absurd h (by omega)
  | n + 1 => by
    have D_l_flat : Df P w K mg base "_law_flat" (n + 3) ps_l_flat (spFlat n) := ⟨f, fd, ok_l_flat F T hm hb D_l_form n, hm, F.kp, hb⟩
    refine F.ok sc_l_flat (fun vs H Q E h => ?_) (fun cdv A outer s H vs Q E hr h => ?_)
    · obtain ⟨_, _, _, _, _, _, _, _, _, _, rfl, _⟩ := h
      rfl
    · obtain ⟨F0, v, av, pa, D, d, p, ar, es, ys, rfl, sF, hv, hpa, hav, fD, hD, tys, les, _, lp, lar, hm0, k⟩ := h
      refine ⟨_, (pss_cons (ps_if (pt_cmpR op_gt (pe_callB call_len_seq (by rfl) T.n_len (by decide +kernel) (pa_cons (pv 3) pa_nil)) pe_int (nomark _))
    (pss_one ps_retN)
    pss_nil)
  (pss_cons (ps_expr (pe_bm PySem.F.plainAttrs_list PySem.F.slot_list_append PySem.F.type_list_append mt_append (pv 3) (pa_cons (pe_tup (pa_cons (pv 1) (pa_cons (pv 0) (pa_cons (pv 2) pa_nil)))) pa_nil)))
  (pss_cons (ps_if (PW.pt (pw_or (pt_not (pt_val (pe_d D_l_form (hr.mono (by omega)) (pa_cons (pv 0) pa_nil)))) (pw_or (pt_cmpR op_eq (pe_ix ix_tup (pv 0) pe_int (fun _ _ => rfl)) pe_str (nomark _)) (pw_or1 (pt_cmpR op_gt (pe_callB call_len_seq (by rfl) T.n_len (by decide +kernel) (pa_cons (pv 1) pa_nil)) pe_int (nomark _))))))
    (pss_one ps_retN)
    pss_nil)
  (pss_cons (ps_set (i := 4) sc_l_flat.nd rfl (Or.inl rfl) (pv 2))
  (Evl.pss_cut (ps_if (pt_cmpR op_ne (pe_ix ix_tup (pv 0) pe_int (fun _ _ => rfl)) pe_str (nomark _))
    (pss_one (ps_set (i := 4) sc_l_flat.nd rfl (Or.inl rfl) (pe_op op_cat (pv 2) (pe_lst (pa_cons (pv 0) pa_nil)))))
    pss_nil)
  (pss_one (ps_for PassesOwn.never rfl (pi_range1 (by rfl) T.n_range (pa_cons (pe_callB call_len_seq (by rfl) T.n_len (by decide +kernel) (pa_cons (pe_ix ix_tup (pv 0) (pe_un un_neg pe_int) (fun _ _ => rfl)) pa_nil)) pa_nil)) (pg_name (i := 5) sc_l_flat.nd rfl (Or.inl rfl))
    (pss_one (ps_expr (pe_d D_l_flat hr (pa_cons (pe_ix (ixK_seq (K := K)) (pe_ix ix_tup (pv 0) (pe_un un_neg pe_int) (fun _ _ => rfl)) (pv 5) (fun _ _ => rfl)) (pa_cons (pe_op op_catA (pv 1) (pe_tup (pa_cons (pv 5) pa_nil))) (pa_cons (pv 4) (pa_cons (pv 3) pa_nil)))))))))))))), ?_⟩
      have lys := tys.len
      rw [List.length_map] at lys
      have k : ∀ F' H' ys', GrowX D F0 H F' H' → H' D = some (.lst ys') → TpAll F' ys' ((capped es (flatS n p ar d)).map entD) → Q .non H' := k
      refine ⟨_, rfl, D, ys, rfl, rw_sq (.inl hD), _, _, rfl, rfl, _, rfl, ifd (fun big => ?_) fun nb => ?_⟩
      · refine k F0 H ys (.same sF fD (Same.refl _)) hD ?_
        rw [capped_full (by omega)]
        exact tys
      have l41 : es.length ≤ 41 := by omega
      refine ⟨_, rfl, .inl ⟨rfl, _, .inl (.inl hD)⟩, _, rfl, _, rfl, _, rfl, (by show 3 ≤ sizeLine; decide), fun t ht => ?_⟩
      have nDt : D ≠ t := fun z => by rw [← z, hD] at ht; cases ht
      have hD1 : (upd H t (.tup [.ref pa, v, av])) D = some (.lst ys) := by rw [upd_ne nDt]; exact hD
      have bd : ys.length < sizeLine := Nat.lt_of_le_of_lt (show _ ≤ 41 by omega) (by decide)
      refine ⟨D, _, _, rfl, rfl, hD1, bd, ?_⟩
      have g1 : Grow F0 H (upd F0 t (.tup [.ref pa, v, av])) (upd H t (.tup [.ref pa, v, av])) := Grow.new sF _ ht
      have f1D : (upd F0 t (.tup [.ref pa, v, av])) D = none := by rw [upd_ne nDt]; exact fD
      have gx2 : GrowX D F0 H (upd F0 t (.tup [.ref pa, v, av])) (upd (upd H t (.tup [.ref pa, v, av])) D (.lst (ys ++ [.ref t]))) := (GrowX.of g1 f1D).trans (GrowX.put g1.fh f1D _)
      have tt : Tp (upd F0 t (.tup [.ref pa, v, av])) (.ref t) (entD (p, d, ar)) := .tup upd_same (.cons (hpa.same g1.ff) (.cons (hv.same g1.ff) (.cons (hav.same g1.ff) .nil)))
      have t2 : TpAll (upd F0 t (.tup [.ref pa, v, av])) (ys ++ [.ref t]) ((es ++ [(p, d, ar)]).map entD) := by
        rw [List.map_append]
        exact (tys.same g1.ff).app (.cons tt .nil)
      have hD2 : (upd (upd H t (.tup [.ref pa, v, av])) D (.lst (ys ++ [.ref t]))) D = some (.lst (ys ++ [.ref t])) := upd_same
      generalize upd (upd H t (.tup [.ref pa, v, av])) D (.lst (ys ++ [.ref t])) = H2 at *
      generalize upd F0 t (.tup [.ref pa, v, av]) = F1 at *
      refine ⟨_, rfl, v, d, rfl, hv.same (gx2.ff.trans gx2.fh), hm0, fun H3 s3 => ⟨_, rfl, ?_⟩⟩
      have gx3 : GrowX D F0 H F1 H3 := gx2.trans (.same gx2.fh gx2.no s3)
      have hD3 := s3 _ _ hD2
      have stop : ∀ {H4 : Hp}, Same H3 H4 → flatS n p ar d = [(p, d, ar)] → Q .non H4 := fun {H4} s4 e => by
        refine k F1 H4 _ (gx3.trans (.same gx3.fh gx3.no s4)) (s4 _ _ hD3) ?_
        rw [e, capped_cons l41, capped_nil]
        exact t2
      have noGo : goesIn d = false → flatS n p ar d = [(p, d, ar)] := fun e => by
        cases n with
        | zero => rfl
        | succ n =>
          show (p, d, ar) :: (if goesIn d = true then _ else []) = _
          rw [e]
          rfl
      cases ef : formD d with
      | false => exact iteT (iteT (stop (Same.refl _) (noGo (by unfold goesIn; rw [ef]; rfl))))
      | true =>
        have ef2 := ef
        unfold formD at ef2
        rw [Bool.and_eq_true] at ef2
        obtain ⟨epd, erow⟩ := ef2
        have hv3 := hv.same (gx3.ff.trans gx3.fh)
        obtain ⟨a, xs, z, ds, rfl, haF, ed, en, ek, at_, h0, ta⟩ := st_at hv epd
        have ha := (gx3.ff.trans gx3.fh) _ _ haF
        rw [ek] at erow
        refine iteF ⟨_, rfl, a, _, 0, _, rfl, rfl, .inl (.inl ha), atI_nat h0, rfl, _, rfl, ifd (fun ep => iteT (stop (Same.refl _) (noGo ?_))) fun np => ?_⟩
        · unfold goesIn
          rw [ef, ek, decide_eq_true (V.str.inj ep)]
          rfl
        have nz : ¬ z = "put" := fun q => np (by rw [q])
        rw [decide_eq_false nz, Bool.false_or] at erow
        have eg : goesIn d = true := by
          unfold goesIn
          rw [ef, ek, decide_eq_false nz]
          rfl
        obtain ⟨ppa, pxs, epp, hppF, tpp⟩ := (show Tp F0 (.ref pa) (.tuple (p.map fun i => PyData.int (i : Nat))) from hpa).tuple
        obtain rfl : pa = ppa := V.ref.inj epp
        have hpp := (gx3.ff.trans gx3.fh) _ _ hppF
        have lpp := tpp.len
        rw [List.length_map] at lpp
        refine ⟨_, rfl, pa, pxs, rfl, .inr (.inl (.inl hpp)), _, _, rfl, rfl, _, rfl, ifd (fun l8 => stop (Same.refl _) ?_) fun n8 => ?_⟩
        · have e0 : n = 0 := by omega
          rw [e0]
          rfl
        obtain ⟨n, rfl⟩ : ∃ m, n = m + 1 := ⟨n - 1, by omega⟩
        have eB : bodyD d = partsD (pt d ds.length) := by
          unfold bodyD
          rw [lastD_pt, ed]
          rfl
        have elp : (partsD d).getLastD .none = pt d ds.length := by
          rw [lastD_pt, ed]
          rfl
        rw [elp] at erow
        obtain ⟨erl, _, l8⟩ := rowD3_row erow
        obtain ⟨xl, hl, tl⟩ := at_ ds.length (by omega)
        obtain ⟨b, bxs, rfl, hbF, tbF⟩ := tl.row erl
        have lxs := ta.len
        have im : atI xs (-1) = some (.ref b) := atI_m1 (by rw [lxs]; exact hl)
        have lb := tbF.len
        have eF : flatS (n + 1) p ar d = (p, d, ar) :: flatL (fun p' d' => flatS n p' (innerL ar d) d') p 0 (partsD (pt d ds.length)) := by
          show (p, d, ar) :: (if goesIn d = true then flatL _ p 0 (bodyD d) else []) = _
          rw [if_pos eg, eB]
        have l11 : (es ++ [(p, d, ar)]).length ≤ 42 := by
          rw [List.length_append]
          show es.length + 1 ≤ 42
          omega
        refine ⟨_, rfl, fun σ' H' => ∃ F4 iv, σ' = [some (.ref a), some (.ref pa), some av, some (.ref D), some iv, none] ∧ GrowX D F1 H3 F4 H' ∧ H' D = some (.lst (ys ++ [.ref t])) ∧ Tp F4 iv (.list (innerL ar d)), ?_, ?_⟩
        · refine ⟨_, rfl, a, _, 0, _, rfl, rfl, .inl (.inl ha), atI_nat h0, rfl, _, rfl, ifn (fun ns => ?_) fun es' => ?_⟩
          · obtain ⟨la, lxs', rfl, hla, tla⟩ := (hav.same gx3.ff).list
            have nsz : ¬ z = "same" := fun q => ns (by rw [q])
            refine ⟨_, rfl, _, rfl, (by show 1 ≤ sizeLine; decide), fun l hl2 => ?_⟩
            have G1 : Grow F1 H3 (upd F1 l (.lst [.ref a])) (upd H3 l (.lst [.ref a])) := Grow.new gx3.fh _ hl2
            refine ⟨la, l, _, _, rfl, rfl, G1.fh _ _ (G1.ff _ _ hla), upd_same, ?_, fun q hq => ?_⟩
            · have := tla.len
              exact Nat.le_trans (show _ ≤ 100 by show lxs'.length + 1 ≤ 100; omega) (by decide)
            have G2 := Grow.new G1.fh (.lst (lxs' ++ [.ref a])) hq
            have nDl : D ≠ l := fun y => by rw [← y, hD3] at hl2; cases hl2
            have nDq : D ≠ q := fun y => by rw [← y, upd_ne nDl, hD3] at hq; cases hq
            refine ⟨_, _, rfl, GrowX.of (G1.trans G2) (by rw [upd_ne nDq, upd_ne nDl]; exact gx3.no), by rw [upd_ne nDq, upd_ne nDl]; exact hD3, ?_⟩
            have eI : innerL ar d = ar ++ [d] := by
              unfold innerL
              rw [ek, if_neg nsz]
            rw [eI]
            have tla2 := (tla.same G1.ff).same G2.ff
            have td2 := hv.same ((gx3.ff.trans G1.ff).trans G2.ff)
            exact .lst upd_same (tla2.app (.cons td2 .nil))
          · have ezz : z = "same" := V.str.inj es'
            have eI : innerL ar d = ar := by
              unfold innerL
              rw [ek, if_pos ezz]
            refine ⟨F1, av, rfl, .same gx3.fh gx3.no (Same.refl _), hD3, ?_⟩
            rw [eI]
            exact hav.same gx3.ff
        · rintro σ' H4 ⟨F4, iv, rfl, gx4, hD4, hiv⟩
          have ha4 := (gx4.ff.trans gx4.fh) _ _ (gx3.ff _ _ haF)
          have hb4 := (hbF.same gx3.ff).same (gx4.ff.trans gx4.fh)
          refine ⟨_, rfl, _, rfl, a, _, _, _, rfl, rfl, .inl (.inl ha4), im, b, bxs, rfl, rw_sq hb4, _, rfl, by omega, by omega, ?_⟩
          refine for_range (lo := 0) (n := bxs.length) (fun i σ H' => ∃ F5 zs v5, σ = [some (.ref a), some (.ref pa), some av, some (.ref D), some iv, v5] ∧ GrowX D F4 H4 F5 H' ∧ H' D = some (.lst zs) ∧ TpAll F5 zs ((capped (es ++ [(p, d, ar)]) (flatL (fun p' d' => flatS n p' (innerL ar d) d') p 0 ((partsD (pt d ds.length)).take i))).map entD))
            ⟨F4, _, _, rfl, .same gx4.fh gx4.no (Same.refl _), hD4, by rw [List.take_zero]; show TpAll F4 _ ((capped _ []).map entD); rw [capped_nil]; exact t2.same gx4.ff⟩ ?_ ?_
          · rintro i σ H5 hi ⟨F5, zs, v5, rfl, gx5, hD5, tz⟩
            have hb1 : bxs[i]? = some bxs[i] := List.getElem?_eq_getElem hi
            obtain ⟨c, hc, tc⟩ := tbF.at hb1
            have mc := mst_mem (List.mem_of_getElem? hc)
            have ml := pt_bd (d := d) (i := ds.length) (by rw [ed]; rfl)
            rw [mst_row erl] at ml
            have up : Same F0 F5 := (gx3.ff.trans gx4.ff).trans gx5.ff
            have ha5 := (up.trans gx5.fh) _ _ haF
            have hb5 := hbF.same (up.trans gx5.fh)
            refine ⟨_, rfl, _, rfl, a, _, _, _, rfl, rfl, .inl (.inl ha5), im, _, rfl, ix_sq (rw_sq hb5) (by rw [Int.zero_add]; exact atI_nat hb1) ?_⟩
            refine ⟨_, rfl, _, rfl, (by show 1 ≤ sizeLine; decide), fun t9 ht9 => ?_⟩
            rw [show (0 : Int) + ((i : Nat) : Int) = (i : Nat) from Int.zero_add _]
            have G1 : Grow F5 H5 (upd F5 t9 (.tup [.int (i : Nat)])) (upd H5 t9 (.tup [.int (i : Nat)])) := Grow.new gx5.fh _ ht9
            have np : pxs ≠ [] := fun y => by
              rw [y] at lpp
              have : p.length = 0 := lpp.symm
              omega
            refine ⟨pa, t9, pxs, [.int (i : Nat)], rfl, rfl, .inl (.inl (G1.fh _ _ (G1.ff _ _ (up _ _ hppF)))), .inl (.inl upd_same), ?_, fun y => absurd y np, fun _ y => (by cases y), fun _ _ p9 hp9 => ?_⟩
            · exact Nat.le_trans (show _ ≤ 100 by show pxs.length + 1 ≤ 100; omega) (by decide)
            have G2 := Grow.new G1.fh (.tup (pxs ++ [.int (i : Nat)])) hp9
            have G := G1.trans G2
            obtain ⟨fD9, hD9⟩ := G.hh _ _ gx5.no hD5
            have tp9 : Tp (upd (upd F5 t9 (.tup [.int (i : Nat)])) p9 (.tup (pxs ++ [.int (i : Nat)]))) (.ref p9) (natsD (p ++ [i])) := by
              unfold natsD
              rw [List.map_append]
              exact .tup upd_same ((tpp.same (up.trans G.ff)).app (.cons (.int _) .nil))
            generalize upd (upd F5 t9 (.tup [.int (i : Nat)])) p9 (.tup (pxs ++ [.int (i : Nat)])) = F7 at *
            generalize upd (upd H5 t9 (.tup [.int (i : Nat)])) p9 (.tup (pxs ++ [.int (i : Nat)])) = H7 at *
            refine ⟨_, rfl, _, rfl, ?_⟩
            refine ⟨F7, bxs[i], iv, p9, D, c, p ++ [i], innerL ar d, _, zs, rfl, G.fh, tc.same (up.trans G.ff), tp9, hiv.same (gx5.ff.trans G.ff), fD9, hD9, tz.same G.ff, capped_len l11, by omega, by rw [List.length_append]; show p.length + 1 + (n + 1) = 10; omega, ?_, by omega, fun F' H' ys' g hD' t' => ?_⟩
            · rw [List.length_append]
              unfold innerL
              split
              · show ar.length < p.length + 1
                omega
              · rw [List.length_append]
                show ar.length + 1 < p.length + 1
                omega
            · refine ⟨F', ys', _, rfl, (gx5.trans (.of G fD9)).trans g, hD', ?_⟩
              rw [capped_app] at t'
              rw [List.take_add_one, hc]
              show TpAll F' ys' ((capped (es ++ [(p, d, ar)]) (flatL _ p 0 ((partsD (pt d ds.length)).take i ++ [c]))).map entD)
              rw [flatL_snoc, Nat.zero_add, List.length_take, Nat.min_eq_left (by omega)]
              exact t'
          · rintro σ H5 ⟨F5, zs, v5, rfl, gx5, hD5, tz⟩
            rw [lb, List.take_length] at tz
            refine k F5 H5 zs ((gx3.trans gx4).trans gx5) hD5 ?_
            rw [show n + 1 + 1 - 1 = n + 1 from rfl] at *
            rw [eF, capped_cons l41]
            exact tz
end
end Fm

/-! ## K08LI -/
set_option Elab.async false
set_option maxRecDepth 100000
set_option maxHeartbeats 8000000
namespace Fm
open PySem L2
/-- what is known of an entry that was found right -/
structure EntOk (e : Ent) : Prop where
  p : hasPD e.2.1 = true
  b : kindD e.2.1 = "put" → ∃ b, pt e.2.1 1 = .str b
  n : e.1 ≠ []
  o : overE (kindD e.2.1) = true → ∃ b, pt e.2.1 2 = .str b
def topE (b : Str) (acc : List Nat) (e : Ent) : List Nat := if kindD e.2.1 = "put" ∧ nameD (pt e.2.1 1) = b ∧ e.1.headD 0 ∉ acc then acc ++ [e.1.headD 0] else acc
def topsL (es : List Ent) (b : Str) : List Nat := es.foldl (topE b) []
theorem topsL_snoc (es : List Ent) (e : Ent) (b : Str) : topsL (es ++ [e]) b = topE b (topsL es b) e := by
  unfold topsL
  rw [List.foldl_append]
  rfl
theorem topE_len (b : Str) (acc : List Nat) (e : Ent) : (topE b acc e).length ≤ acc.length + 1 := by
  unfold topE
  split
  · rw [List.length_append]
    exact Nat.le_refl _
  · omega
theorem ent_at {H : Hp} {v : V} {e : Ent} (h : Tp H v (entD e)) (np : e.1 ≠ []) : ∃ t pa sv av xs, v = .ref t ∧ H t = some (.tup [.ref pa, sv, av]) ∧ H pa = some (.tup xs) ∧ xs[0]? = some (.int ((e.1.headD 0 : Nat) : Int)) ∧ Tp H (.ref pa) (natsD e.1) ∧ Tp H sv e.2.1 ∧ Tp H av (.list e.2.2) := by
  obtain ⟨t, x, y, z, rfl, ht, h1, h2, h3⟩ := tp3 h
  obtain ⟨pa, xs, rfl, hpa, tp⟩ := (show Tp H x (.tuple (e.1.map fun i => PyData.int (i : Nat))) from h1).tuple
  refine ⟨t, pa, y, z, xs, rfl, ht, hpa, ?_, h1, h2, h3⟩
  cases q : e.1 with
  | nil => exact absurd q np
  | cons p0 ps =>
    rw [q] at tp
    cases tp with
    | cons a b =>
      rw [a.intI]
      rfl
section
variable {P : Program} {w : World} {K : PySem.W.Frag} {mg : Str → Option Value} {base : Heap} {CS CG CRd PD CN CBP CBB CBS : Addr}
def spTops : Sp := fun vs H Q _ => ∃ (fv : V) (k : Nat) (b : Str) (es : List Ent), vs = [fv, .int (k : Nat), .str b] ∧ Tp H fv (.list (es.map entD)) ∧ k ≤ es.length ∧ es.length ≤ 42 ∧ (∀ e ∈ es.take k, EntOk e) ∧ ∀ p H', Same H H' → H' p = some (.lst (natL (topsL (es.take k) b))) → Q (.ref p) H'
abbrev s_l_tops_ahead : Stmt := topS 70
abbrev sc_l_tops_aheadN : List Str := ["_law_flat_here", "_law_k", "_law_name_here", "_law_found", "_law_entry"]
abbrev ps_l_tops_ahead : List Str := ["_law_flat_here", "_law_k", "_law_name_here"]
theorem sc_l_tops_ahead : FnScope sc_l_tops_aheadN ps_l_tops_ahead (defScope s_l_tops_ahead) := ⟨rfl, rfl, rfl, by decide +kernel, rfl, by decide +kernel, by decide +kernel⟩
theorem ok_l_tops_ahead {f : Addr} {fd : FuncData} (F : Fun K "_law_tops_ahead" "_law_tops_ahead" s_l_tops_ahead f fd) (T : Txt K mg CS) : FnOk P w K mg base CX0 1 f fd ps_l_tops_ahead spTops := by
  refine F.ok sc_l_tops_ahead (fun vs H Q E h => ?_) (fun cdv A outer s H vs Q E hr h => ?_)
  · obtain ⟨_, _, _, _, rfl, _⟩ := h
    rfl
  · obtain ⟨fv, n, b, es, rfl, hf, hk, le, ok, k⟩ := h
    refine ⟨_, (pss_cons (ps_set (i := 3) sc_l_tops_ahead.nd rfl (Or.inl rfl) (pe_lst pa_nil))
  (pss_cons (ps_for PassesOwn.never rfl (pi_any (pe_slice sl_any (pv 0) po_none (po_some (pv 1)))) (pg_name (i := 4) sc_l_tops_ahead.nd rfl (Or.inl rfl))
    (pss_one (ps_if (PW.pt (pw_and (pt_cmpR op_eq (pe_ix ix_tup (pe_ix ix_tup (pv 4) pe_int (fun _ _ => rfl)) pe_int (fun _ _ => rfl)) pe_str (nomark _)) (pw_and (pt_cmpR op_eq (pe_ix ix_tup (pe_ix ix_tup (pv 4) pe_int (fun _ _ => rfl)) pe_int (fun _ _ => rfl)) (pv 2) (nomark _)) (pw_and1 (pt_cmpR op_notIn_seq (pe_ix ix_tup (pe_ix ix_tup (pv 4) pe_int (fun _ _ => rfl)) pe_int (fun _ _ => rfl)) (pv 3) (by rfl))))))
      (pss_one (ps_expr (pe_bm PySem.F.plainAttrs_list PySem.F.slot_list_append PySem.F.type_list_append mt_append (pv 3) (pa_cons (pe_ix ix_tup (pe_ix ix_tup (pv 4) pe_int (fun _ _ => rfl)) pe_int (fun _ _ => rfl)) pa_nil))))
      pss_nil)))
  (pss_one (ps_ret (pv 3))))), ?_⟩
    refine ⟨(by show 0 ≤ sizeLine; decide), fun D hD => ?_⟩
    have s0 : Same H (upd H D (.lst [])) := same_new _ hD
    have hD1 : (upd H D (.lst [])) D = some (.lst []) := upd_same
    generalize upd H D (.lst []) = H1 at *
    refine ⟨_, rfl, _, rfl, _, rfl, sl_tree s0 hf rfl fun u F2 H2 gr tu => ?_⟩
    obtain ⟨f2D, hD2⟩ := gr.hh _ _ hD hD1
    have lm : (partsD (.list (es.map entD))).length = es.length := List.length_map _
    rw [HT.sIx_none, HT.sIx_nat, lm, Nat.min_eq_left hk, List.drop_zero, Nat.sub_zero] at tu
    obtain ⟨a, zs, rfl, haF, tz⟩ := (show Tp F2 u (.list ((es.map entD).take n)) from tu).list
    rw [← List.map_take] at tz
    have lz := tz.len
    rw [List.length_map, List.length_take, Nat.min_eq_left hk] at lz
    have l42 : ∀ i, i ≤ n → (topsL ((es.take n).take i) b).length ≤ i := by
      intro i
      induction i with
      | zero => exact fun _ => Nat.le_refl _
      | succ i ih =>
        intro h
        have hi : (es.take n)[i]? = some ((es.take n)[i]'(by rw [List.length_take]; omega)) := List.getElem?_eq_getElem _
        rw [List.take_add_one, hi]
        show (topsL ((es.take n).take i ++ [_]) b).length ≤ i + 1
        rw [topsL_snoc]
        have := topE_len b (topsL ((es.take n).take i) b) ((es.take n)[i]'(by rw [List.length_take]; omega))
        have := ih (by omega)
        omega
    have ha2 : Rw F2 a zs := .inl haF
    refine ⟨a, zs, rfl, any_of (K := K) (rw_sq ha2) gr.fh fun J G gm wk => ?_⟩
    refine for_it wk (fun i σ H' => ∃ v4, σ = [some fv, some (.int (n : Nat)), some (.str b), some (.ref D), v4] ∧ Same F2 H' ∧ H' D = some (.lst (natL (topsL ((es.take n).take i) b)))) ⟨_, rfl, gr.fh, hD2⟩ (fun i σ H' _ z => by obtain ⟨_, _, z, _⟩ := z; exact gm H' z) ?_ ?_
    · rintro i x σ H3 H4 hi ⟨v4, rfl, s3, d3⟩ ⟨rfl, hxi⟩
      obtain ⟨c, hc, tc⟩ := tz.at hxi
      rw [List.getElem?_map] at hc
      obtain ⟨e, he, rfl⟩ := Option.map_eq_some_iff.mp hc
      have oe := ok e (List.mem_of_getElem? he)
      obtain ⟨t, pa, sv, av, pxs, rfl, ht, hpa, h0, _, tsv, _⟩ := ent_at (tc.same s3) oe.n
      obtain ⟨a9, x9, z9, ds9, rfl, hsa, ed9, epn, ek, at_, h09, ta9⟩ := st_at tsv oe.p
      have eS : topsL ((es.take n).take (i + 1)) b = topE b (topsL ((es.take n).take i) b) e := by
        rw [List.take_add_one, he]
        exact topsL_snoc _ _ _
      have skip : topE b (topsL ((es.take n).take i) b) e = topsL ((es.take n).take i) b → ∃ v4, [some fv, some (V.int (n : Nat)), some (.str b), some (.ref D), some (.ref t)] = [some fv, some (.int (n : Nat)), some (.str b), some (.ref D), v4] ∧ Same F2 H4 ∧ H4 D = some (.lst (natL (topsL ((es.take n).take (i + 1)) b))) := fun q => ⟨_, rfl, s3, by rw [eS, q]; exact d3⟩
      refine ⟨_, rfl, t, _, 1, _, rfl, rfl, .inl (.inl ht), ix1, a9, _, 0, _, rfl, rfl, .inl (.inl hsa), atI_nat h09, rfl, _, rfl, ifd (fun ep => ?_) fun np => ?_⟩
      rotate_left
      · refine iteF (skip ?_)
        unfold topE
        rw [if_neg (fun q => np (by rw [← ek, q.1]))]
      have ezp : z9 = "put" := V.str.inj ep
      obtain ⟨b', eb'⟩ := oe.b (by rw [ek, ezp])
      have l9 := parts_of epn (m := 4) (by rw [ezp]; rfl)
      obtain ⟨x1, hx1, tx1⟩ := at_ 1 (by omega)
      rw [eb'] at tx1
      obtain rfl : x1 = V.str b' := tx1.strI
      refine ⟨_, rfl, t, _, 1, _, rfl, rfl, .inl (.inl ht), ix1, a9, _, 1, _, rfl, rfl, .inl (.inl hsa), atI_nat hx1, _, rfl, rfl, _, rfl, ifd (fun eb => ?_) fun nb => ?_⟩
      rotate_left
      · refine iteF (skip ?_)
        unfold topE
        rw [if_neg (fun q => nb (by have y := q.2.1; rw [eb'] at y; rw [show b' = b from y]))]
      have ebb : b' = b := V.str.inj eb
      subst ebb
      have flt : (natL (topsL ((es.take n).take i) b')).all (fun v => flatV v) = true := by
        unfold natL
        rw [List.all_map]
        simp [flatV]
      refine ⟨_, rfl, t, _, 0, _, rfl, rfl, .inl (.inl ht), ix0, pa, _, 0, _, rfl, rfl, .inl (.inl hpa), atI_nat h0, _, rfl, D, _, rfl, .inl (.inl (.inl d3)), rfl, flt, _, rfl, ?_⟩
      show (if (!inV (V.int ((e.1.headD 0 : Nat) : Int)) (natL (topsL ((es.take n).take i) b'))) = true then _ else _)
      rw [inV_nat]
      have eT : topE b' (topsL ((es.take n).take i) b') e = if e.1.headD 0 ∉ topsL ((es.take n).take i) b' then topsL ((es.take n).take i) b' ++ [e.1.headD 0] else topsL ((es.take n).take i) b' := by
        unfold topE
        rw [ek, ezp, eb']
        by_cases q : e.1.headD 0 ∈ topsL ((es.take n).take i) b'
        · rw [if_neg (fun z => z.2.2 q), if_neg (fun z => z q)]
        · rw [if_pos ⟨rfl, rfl, q⟩, if_pos q]
      by_cases m : e.1.headD 0 ∈ topsL ((es.take n).take i) b'
      · rw [decide_eq_true m]
        refine iteF (skip ?_)
        rw [eT, if_neg (fun z => z m)]
      · rw [decide_eq_false m]
        rw [if_pos m] at eT
        refine iteT ⟨_, rfl, .inl ⟨rfl, _, .inl (.inl d3)⟩, _, rfl, t, _, 0, _, rfl, rfl, .inl (.inl ht), ix0, pa, _, 0, _, rfl, rfl, .inl (.inl hpa), atI_nat h0, D, _, _, rfl, rfl, d3, ?_, ?_⟩
        · rw [natL_len]
          have := l42 i (by omega)
          exact Nat.lt_of_le_of_lt (show _ ≤ 100 by omega) (by decide)
        · refine ⟨_, rfl, same_put s3 _ f2D, ?_⟩
          rw [upd_same, eS, eT]
          unfold natL
          rw [List.map_append]
          rfl
    · rintro σ H3 ⟨v4, rfl, s3, d3⟩
      rw [lz, List.take_take, Nat.min_self] at d3
      exact ⟨_, rfl, k D H3 (gr.ff.trans s3) d3⟩
end
end Fm

/-! ## K08LJ -/
set_option Elab.async false
set_option maxRecDepth 100000
set_option maxHeartbeats 8000000
namespace Fm
open PySem L2
/-! ### the reading of nested bodies is the reading of the flat list -/
def stepE (ts : List Tab) (bs : Env) (st : RS) (e : Ent) : Except (List Nat) RS :=
  if 40 < st.many + 1 ∨ 9 ≤ e.1.length ∨ fitsD ts bs (moreS st) (e.1.headD 0) (envOf ts bs e.2.2) e.2.1 = false then .error e.1 else .ok (noteS (moreS st) (e.1.headD 0) e.2.1)
def thenE (r : Except (List Nat) RS) (f : RS → Except (List Nat) RS) : Except (List Nat) RS := match r with
  | .error p => .error p
  | .ok st => f st
def foldE (ts : List Tab) (bs : Env) : RS → List Ent → Except (List Nat) RS
  | st, [] => .ok st
  | st, e :: es => thenE (stepE ts bs st e) fun st' => foldE ts bs st' es
theorem foldE_app (ts : List Tab) (bs : Env) : ∀ (a b : List Ent) (st : RS), foldE ts bs st (a ++ b) = thenE (foldE ts bs st a) fun st' => foldE ts bs st' b
  | [], _, _ => rfl
  | e :: a, b, st => by
    show thenE (stepE ts bs st e) (fun st' => foldE ts bs st' (a ++ b)) = thenE (thenE (stepE ts bs st e) fun st' => foldE ts bs st' a) _
    cases stepE ts bs st e with
    | error p => rfl
    | ok st' => exact foldE_app ts bs a b st'
theorem readL_flat {ts : List Tab} {bs : Env} {f : List Nat → RS → PyData → Except (List Nat) RS} {g : List Nat → PyData → List Ent} {path : List Nat} (h : ∀ i st d, f (path ++ [i]) st d = foldE ts bs st (g (path ++ [i]) d)) : ∀ (ds : List PyData) (i : Nat) (st : RS), readL f path i st ds = foldE ts bs st (flatL g path i ds)
  | [], _, _ => rfl
  | d :: ds, i, st => by
    show _ = foldE ts bs st (g (path ++ [i]) d ++ flatL g path (i + 1) ds)
    rw [foldE_app, ← h i st d]
    show (match f (path ++ [i]) st d with | .error p => Except.error p | .ok st' => readL f path (i + 1) st' ds) = _
    cases f (path ++ [i]) st d with
    | error p => rfl
    | ok st' => exact readL_flat h ds (i + 1) st'
theorem within_env {ts : List Tab} {bs : Env} {ar : List PyData} {d : PyData} : withinD ts bs (envOf ts bs ar) d = envOf ts bs (innerL ar d) := by
  unfold withinD innerL
  by_cases q : kindD d = "same"
  · rw [if_pos q, if_pos q]
  · rw [if_neg q, if_neg q]
    unfold envOf
    rw [List.map_append]
    rfl
theorem read_flat (ts : List Tab) (bs : Env) : ∀ (n : Nat) (p : List Nat) (ar : List PyData) (d : PyData) (st : RS), p.length + n = 9 → readS ts bs n (envOf ts bs ar) p st d = foldE ts bs st (flatS n p ar d)
  | 0, p, ar, d, st, h => by
    show Except.error p = thenE (stepE ts bs st (p, d, ar)) _
    unfold stepE
    rw [if_pos (.inr (.inl (by show 9 ≤ p.length; omega)))]
    rfl
  | n + 1, p, ar, d, st, h => by
    show (if 40 < st.many + 1 ∨ fitsD ts bs (moreS st) (p.headD 0) (envOf ts bs ar) d = false then Except.error p else if kindD d = "put" then .ok (noteS (moreS st) (p.headD 0) d) else readL (readS ts bs n (withinD ts bs (envOf ts bs ar) d)) p 0 (noteS (moreS st) (p.headD 0) d) (partsD ((partsD d).getLastD .none))) = thenE (stepE ts bs st (p, d, ar)) fun st' => foldE ts bs st' (if goesIn d = true then flatL (fun p' d' => flatS n p' (innerL ar d) d') p 0 (bodyD d) else [])
    by_cases bad : 40 < st.many + 1 ∨ fitsD ts bs (moreS st) (p.headD 0) (envOf ts bs ar) d = false
    · have eS : stepE ts bs st (p, d, ar) = .error p := by
        unfold stepE
        exact if_pos (bad.elim .inl fun q => .inr (.inr q))
      rw [if_pos bad, eS]
      rfl
    · have eS : stepE ts bs st (p, d, ar) = .ok (noteS (moreS st) (p.headD 0) d) := by
        unfold stepE
        refine if_neg fun q => ?_
        rcases q with q | q | q
        · exact bad (.inl q)
        · have q : 9 ≤ p.length := q
          omega
        · exact bad (.inr q)
      rw [if_neg bad, eS]
      show _ = foldE ts bs (noteS (moreS st) (p.headD 0) d) (if goesIn d = true then flatL (fun p' d' => flatS n p' (innerL ar d) d') p 0 (bodyD d) else [])
      have fit : fitsD ts bs (moreS st) (p.headD 0) (envOf ts bs ar) d = true := by
        cases q : fitsD ts bs (moreS st) (p.headD 0) (envOf ts bs ar) d with
        | true => rfl
        | false => exact absurd (.inr q) bad
      unfold fitsD at fit
      rw [Bool.and_eq_true] at fit
      by_cases ep : kindD d = "put"
      · have eg : goesIn d = false := by
          unfold goesIn
          rw [ep, Bool.and_eq_false_iff]
          exact .inr rfl
        rw [if_pos ep, eg]
        rfl
      · have fr := fit.2
        rw [if_neg ep, Bool.and_eq_true] at fr
        have eg : goesIn d = true := by
          unfold goesIn formD
          rw [fit.1, fr.1, decide_eq_false ep]
          rfl
        rw [if_neg ep, eg, if_pos rfl, within_env]
        refine readL_flat (fun i st d' => ?_) _ 0 _
        exact read_flat ts bs n (p ++ [i]) (innerL ar d) d' st (by rw [List.length_append]; show p.length + 1 + n = 9; omega)
theorem step_many {ts : List Tab} {bs : Env} {st st' : RS} {e : Ent} (h : stepE ts bs st e = .ok st') : st'.many = st.many + 1 ∧ st.many + 1 ≤ 40 := by
  unfold stepE at h
  split at h
  · cases h
  · rename_i q
    cases h
    refine ⟨?_, ?_⟩
    · unfold noteS
      split
      · rfl
      · split <;> rfl
    · have : ¬ 40 < st.many + 1 := fun z => q (.inl z)
      omega
theorem fold_take (ts : List Tab) (bs : Env) : ∀ (es : List Ent) (k : Nat) (st : RS), st.many ≤ 40 → 42 ≤ st.many + k → foldE ts bs st (es.take k) = foldE ts bs st es
  | [], k, st, _, _ => by rw [List.take_nil]
  | e :: es, k, st, h1, h2 => by
    obtain ⟨k, rfl⟩ : ∃ m, k = m + 1 := ⟨k - 1, by omega⟩
    rw [List.take_succ_cons]
    show thenE (stepE ts bs st e) _ = thenE (stepE ts bs st e) _
    cases q : stepE ts bs st e with
    | error p => rfl
    | ok st' =>
      obtain ⟨m1, m2⟩ := step_many q
      exact fold_take ts bs es k st' (by omega) (by omega)
/-- the whole body, by the flat list -/
theorem body_flat (ts : List Tab) (bs : Env) (d : PyData) (h : rowD3 1 12 d = true) : bodyRead ts bs d = foldE ts bs rs0 (capped [] (flatL (fun q d => flatS 8 q [] d) [] 0 (partsD d))) := by
  unfold bodyRead
  rw [if_pos h]
  show _ = foldE ts bs rs0 ([] ++ (flatL _ [] 0 (partsD d)).take 42)
  rw [List.nil_append, fold_take ts bs _ 42 rs0 (Nat.zero_le _) (by show 42 ≤ 0 + 42; omega)]
  exact readL_flat (fun i st d => read_flat ts bs 8 ([] ++ [i]) [] d st rfl) _ 0 _
end Fm

/-! ## K08LK -/
set_option Elab.async false
set_option maxRecDepth 100000
set_option maxHeartbeats 8000000
namespace Fm
open PySem L2
def loopD (ts : List Tab) (bs : Env) (tops : Str → List Nat) (top : Nat) (e : Env) (d : PyData) : Bool := freeD e (pt d 1) && (if overE (kindD d) = true then entFit bs ⟨0, tops, []⟩ top e d else rowsFit ts e d)
section
variable {P : Program} {w : World} {K : PySem.W.Frag} {mg : Str → Option Value} {base : Heap} {CS CG CRd PD CN CBP CBB CBS : Addr}
def spLoop : Sp := fun vs H Q _ => ∃ (wp : Addr) (fv : V) (n : Nat) (es : List Ent) (e : Ent) (ts : List Tab) (dB : PyData), vs = [.ref wp, fv, .int (n : Nat)] ∧ WpAt H wp ts dB ∧ Tp H fv (.list (es.map entD)) ∧ es[n]? = some e ∧ es.length ≤ 42 ∧ (∀ u ∈ es.take n, EntOk u) ∧ hasPD e.2.1 = true ∧ kindD e.2.1 ≠ "put" ∧ kindD e.2.1 ≠ "same" ∧ e.1 ≠ [] ∧ (∀ s ∈ e.2.2, GoodB ts dB s) ∧ e.2.2.length ≤ 9 ∧ mst e.2.1 ≤ 100000 ∧
  ∀ H', Same H H' → Q (.bl (loopD ts (envB dB) (topsL (es.take n)) (e.1.headD 0) (envOf ts (envB dB) e.2.2) e.2.1)) H'
abbrev s_l_right_loop : Stmt := topS 72
abbrev sc_l_right_loopN : List Str := ["_law_world", "_law_flat_here", "_law_k", "_law_path", "_law_statement", "_law_around", "_law_word_here", "_law_one", "_law_table", "_law_block", "_law_tops"]
abbrev ps_l_right_loop : List Str := ["_law_world", "_law_flat_here", "_law_k"]
theorem sc_l_right_loop : FnScope sc_l_right_loopN ps_l_right_loop (defScope s_l_right_loop) := ⟨rfl, rfl, rfl, by decide +kernel, rfl, by decide +kernel, by decide +kernel⟩
theorem ok_l_right_loop {f : Addr} {fd : FuncData} (F : Fun K "_law_right_loop" "_law_right_loop" s_l_right_loop f fd) (T : Txt K mg CS) (D_l_word : Df P w K mg base "_law_word" 1 ps_l_word spWord) (D_l_named_row : Df P w K mg base "_law_named_row" 1 ps_l_named_row spNamedRow) (D_l_right_term : Df P w K mg base "_law_right_term" 4 ps_l_right_term spTermL) (D_l_right_terms : Df P w K mg base "_law_right_terms" 5 ps_l_right_terms spTermsL) (D_l_tops_ahead : Df P w K mg base "_law_tops_ahead" 1 ps_l_tops_ahead spTops) : FnOk P w K mg base CX0 6 f fd ps_l_right_loop spLoop := by
  refine F.ok sc_l_right_loop (fun vs H Q E h => ?_) (fun cdv A outer s H vs Q E hr h => ?_)
  · obtain ⟨_, _, _, _, _, _, _, rfl, _⟩ := h
    rfl
  · obtain ⟨wp, fv, n, es, e, ts, dB, rfl, W, hf, he, le, ok, hp, nput, nsame, np, ga, lar, hm, k⟩ := h
    refine ⟨_, (pss_cons (ps_asg (pe_ix ix_list (pv 1) (pv 2) (fun _ _ => rfl)) (pg_tup (by rfl) (pgs_cons (pg_name (i := 3) sc_l_right_loop.nd rfl (Or.inl rfl)) (pgs_cons (pg_name (i := 4) sc_l_right_loop.nd rfl (Or.inl rfl)) (pgs_cons (pg_name (i := 5) sc_l_right_loop.nd rfl (Or.inl rfl)) pgs_nil)))))
  (pss_cons (ps_set (i := 6) sc_l_right_loop.nd rfl (Or.inl rfl) (pe_ix ix_tup (pv 4) pe_int (fun _ _ => rfl)))
  (pss_cons (ps_if (PW.pt (pw_or (pt_not (pt_val (pe_d D_l_word (hr.mono (by decide)) (pa_cons (pe_ix ix_tup (pv 4) pe_int (fun _ _ => rfl)) pa_nil)))) (pw_or1 (pt_cmpR op_in_seq (pe_ix ix_tup (pv 4) pe_int (fun _ _ => rfl)) (pe_lc (own := [("_law_one", 7)]) (g := gName 7) (tt := tYes) (by rfl) sc_l_right_loop.nd (pi_list (pv 5)) (blkOk_by (own := [("_law_one", 7)]) (N := sc_l_right_loopN) (sc := defScope s_l_right_loop) (by decide +kernel)) (fun _ _ _ _ _ => pg_name (i := 7) sc_l_right_loop.nd rfl (Or.inl rfl)) (fun _ _ _ _ _ => pts_nil) (fun _ _ _ _ _ => (pe_ix (ixK_tup (K := K)) (pv 7) pe_int (fun _ _ => rfl)))) (by rfl)))))
    (pss_one (ps_ret pe_bl))
    pss_nil)
  (pss_cons (ps_if (pt_cmpR op_in_seq (pv 6) (pe_tup (pa_cons pe_str (pa_cons pe_str (pa_cons pe_str pa_nil)))) (by rfl))
    (pss_cons (ps_set (i := 8) sc_l_right_loop.nd rfl (Or.inl rfl) (pe_d D_l_named_row (hr.mono (by decide)) (pa_cons (pe_ix ix_tup (pv 0) pe_int (fun _ _ => rfl)) (pa_cons (pe_ix ix_tup (pv 4) pe_int (fun _ _ => rfl)) pa_nil))))
    (pss_cons (ps_if (PW.pt (pw_or (pt_cmpR op_isN (pv 8) pe_non (nomark _)) (pw_or1 (PW.pt (pw_and (pt_cmpR op_ne (pv 6) pe_str (nomark _)) (pw_and1 (pt_cmpR (op_notInT (K := K) hr.units) (pe_ix ix_tup (pv 4) pe_int (fun _ _ => rfl)) (pe_ix ix_tup (pv 8) pe_int (fun _ _ => rfl)) (by rfl))))))))
      (pss_one (ps_ret pe_bl))
      pss_nil)
    (pss_one (ps_ret (pe_or (pe_cmpR op_ne (pv 6) pe_str (nomark _)) (pe_one (pe_d D_l_right_term (hr.mono (by decide)) (pa_cons (pv 0) (pa_cons (pv 5) (pa_cons (pe_ix ix_tup (pv 4) pe_int (fun _ _ => rfl)) pa_nil))))))))))
    pss_nil)
  (pss_cons (ps_set (i := 9) sc_l_right_loop.nd rfl (Or.inl rfl) (pe_d D_l_named_row (hr.mono (by decide)) (pa_cons (pe_ix ix_tup (pv 0) pe_int (fun _ _ => rfl)) (pa_cons (pe_ix ix_tup (pv 4) pe_int (fun _ _ => rfl)) pa_nil))))
  (pss_cons (ps_if (PW.pt (pw_or (pt_cmpR op_isN (pv 9) pe_non (nomark _)) (pw_or1 (PW.pt (pw_and (pt_cmpR op_eq (pv 6) pe_str (nomark _)) (pw_and1 (pt_cmpR (op_notInT (K := K) hr.units) (pe_ix ix_tup (pv 4) pe_int (fun _ _ => rfl)) (pe_ix ix_tup (pv 9) pe_int (fun _ _ => rfl)) (by rfl))))))))
    (pss_one (ps_ret pe_bl))
    pss_nil)
  (pss_cons (ps_if (PW.pt (pw_and (pt_cmpR op_eq (pv 6) pe_str (nomark _)) (pw_and1 (pt_not (pt_val (pe_d D_l_right_terms (hr.mono (by decide)) (pa_cons (pv 0) (pa_cons (pv 5) (pa_cons (pe_ix ix_tup (pv 4) pe_int (fun _ _ => rfl)) (pa_cons (pe_callB call_len_seq (by rfl) T.n_len (by decide +kernel) (pa_cons (pe_ix ix_tup (pv 9) pe_int (fun _ _ => rfl)) pa_nil)) pa_nil))))))))))
    (pss_one (ps_ret pe_bl))
    pss_nil)
  (pss_cons (ps_set (i := 10) sc_l_right_loop.nd rfl (Or.inl rfl) (pe_d D_l_tops_ahead (hr.mono (by decide)) (pa_cons (pv 1) (pa_cons (pv 2) (pa_cons (pe_ix ix_tup (pv 9) pe_int (fun _ _ => rfl)) pa_nil)))))
  (pss_one (ps_ret (pe_and (pe_cmpR op_eq (pe_callB call_len_seq (by rfl) T.n_len (by decide +kernel) (pa_cons (pv 10) pa_nil)) pe_int (nomark _)) (pe_one (pe_cmpR op_ne (pe_ix ix_list (pv 10) pe_int (fun _ _ => rfl)) (pe_ix ix_tup (pv 3) pe_int (fun _ _ => rfl)) (nomark _)))))))))))))), ?_⟩
    obtain ⟨fa, fxs, rfl, hfa, tfa⟩ := hf.list
    have heD : (es.map entD)[n]? = some (entD e) := by rw [List.getElem?_map, he]; rfl
    obtain ⟨ve, hve, tve⟩ := tfa.to heD
    obtain ⟨t, pa, sv, av, pxs, rfl, ht, hpa, h0p, tpa, tsv, tav⟩ := ent_at tve np
    refine ⟨_, rfl, _, rfl, fa, fxs, n, _, rfl, rfl, .inl (.inl hfa), atI_nat hve, t, _, rfl, .inl (.inl ht), rfl, _, _, rfl, _, _, rfl, _, _, rfl, rfl, ?_⟩
    obtain ⟨p1, d, ar⟩ := e
    have np : p1 ≠ [] := np
    have tsv : Tp H sv d := tsv
    have tav : Tp H av (.list ar) := tav
    have hp : hasPD d = true := hp
    have nput : kindD d ≠ "put" := nput
    have nsame : kindD d ≠ "same" := nsame
    have ga : ∀ s ∈ ar, GoodB ts dB s := ga
    have lar : ar.length ≤ 9 := lar
    have hm : mst d ≤ 100000 := hm
    have k : ∀ H', Same H H' → Q (.bl (loopD ts (envB dB) (topsL (es.take n)) (p1.headD 0) (envOf ts (envB dB) ar) d)) H' := k
    obtain ⟨a, xs, z, ds, rfl, ha, ed, en, ek, at_, h0, ta⟩ := st_at tsv hp
    have erow : isRowD d = true := by rw [ed]; rfl
    rw [ek] at nput nsame
    have l3 : 3 ≤ ds.length := by
      have en2 := en
      unfold partsN at en2
      rw [if_neg nsame] at en2
      repeat' (first | (split at en2; have en2 := Option.some.inj en2; omega) | (rw [if_neg nput] at en2; cases en2) | split at en2)
      all_goals first | omega | (exfalso; simp_all) | skip
    obtain ⟨x1, h1, t1⟩ := at_ 1 (by omega)
    obtain ⟨x2, h2, t2⟩ := at_ 2 (by omega)
    obtain ⟨x3, h3, t3⟩ := at_ 3 (by omega)
    have b1 := (pt_bd (d := d) (i := 1) erow).1
    have b3 := (pt_bd (d := d) (i := 3) erow).1
    have no : ∀ {H'}, Same H H' → loopD ts (envB dB) (topsL (es.take n)) (p1.headD 0) (envOf ts (envB dB) ar) d = false → Q (.bl false) H' := fun s e => by
      have q := k _ s
      rw [e] at q
      exact q
    refine ⟨_, rfl, a, _, 0, _, rfl, rfl, .inl (.inl ha), atI_nat h0, ?_⟩
    refine ⟨_, rfl, a, _, 1, _, rfl, rfl, .inl (.inl ha), atI_nat h1, x1, pt d 1, rfl, t1, by omega, _, rfl, ?_⟩
    cases e1 : isNmD (pt d 1) with
    | false =>
      refine iteT (iteT (no (Same.refl _) ?_))
      have q : freeD (envOf ts (envB dB) ar) (pt d 1) = false := by
        cases y : pt d 1 with
        | str v =>
          rw [y] at e1
          have e1 : isNm v = false := e1
          show (isNm v && _) = false
          rw [e1]
          rfl
        | _ => rfl
      unfold loopD
      rw [q]
      rfl
    | true =>
      obtain ⟨v1, ev1, env1⟩ := nmD_str e1
      rw [ev1] at t1
      obtain rfl : x1 = V.str v1 := t1.strI
      obtain ⟨la, lxs, rfl, hla, tla⟩ := tav.list
      have lla := tla.len
      refine iteF ⟨_, rfl, a, _, 1, _, rfl, rfl, .inl (.inl ha), atI_nat h1, _, rfl, la, rfl, ⟨_, .inl (.inl hla)⟩, fun D hD => ?_⟩
      refine lc_it walk_list (fun i H' => Same H H' ∧ H' D = some (.lst ((ar.take i).map fun u => V.str (nameD (pt u 1))))) ⟨same_new _ hD, upd_same⟩ (fun i H' _ z => .inl (.inl (z.1 _ _ hla))) ?_ ?_
      · rintro i u H2 H3 hi ⟨s2, d2⟩ ⟨rfl, hui⟩
        obtain ⟨st, hst, tst⟩ := tla.at hui
        have gs := ga st (List.mem_of_getElem? hst)
        obtain ⟨nn, en9, _⟩ := gs.n
        obtain ⟨a9, x9, z9, ds9, rfl, hsa, ed9, epn, ek9, at9, h09, ta9⟩ := st_at (tst.same s2) gs.p
        have l9 : 1 ≤ ds9.length := by
          cases ds9 with
          | nil =>
            rw [ed9] at en9
            exact absurd en9 (by show ¬ (PyData.none = .str nn); intro y; cases y)
          | cons _ _ => exact Nat.succ_le_succ (Nat.zero_le _)
        obtain ⟨w1, hw1, tw1⟩ := at9 1 (by omega)
        rw [en9] at tw1
        obtain rfl : w1 = V.str nn := tw1.strI
        refine ⟨rfl, _, rfl, a9, _, 1, _, rfl, rfl, .inl (.inl hsa), atI_nat hw1, ?_⟩
        refine ⟨_, d2, take_lt _ (by omega), same_put s2 _ hD, ?_⟩
        rw [upd_same, map_take _ hst, en9]
        rfl
      rintro H2 ⟨s2, d2⟩
      rw [lla, List.take_length, show (ar.map fun u => V.str (nameD (pt u 1))) = (ar.map fun u => nameD (pt u 1)).map V.str by rw [List.map_map]; rfl] at d2
      refine ⟨D, _, rfl, .inl (.inl (.inl d2)), rfl, flat_strs _, _, rfl, ?_⟩
      rw [inV_str]
      have eFree : freeD (envOf ts (envB dB) ar) (pt d 1) = !decide (v1 ∈ ar.map fun u => nameD (pt u 1)) := by
        rw [ev1]
        show (isNm v1 && !(envAt (envOf ts (envB dB) ar) v1).isSome) = _
        rw [env1, Bool.true_and]
        congr 1
        by_cases m : v1 ∈ ar.map fun u => nameD (pt u 1)
        · rw [decide_eq_true m]
          unfold envAt
          rw [Option.isSome_map, List.find?_isSome]
          obtain ⟨u, mu, eu⟩ := List.mem_map.mp m
          exact ⟨_, List.mem_map.mpr ⟨u, mu, rfl⟩, decide_eq_true eu⟩
        · rw [decide_eq_false m, envOf_miss (fun u mu q => m (List.mem_map.mpr ⟨u, mu, q⟩))]
          rfl
      refine ifd (fun yes => no s2 ?_) fun nin => ?_
      · unfold loopD
        rw [eFree, decide_eq_true yes]
        rfl
      have eL : loopD ts (envB dB) (topsL (es.take n)) (p1.headD 0) (envOf ts (envB dB) ar) d = if overE (kindD d) = true then entFit (envB dB) ⟨0, topsL (es.take n), []⟩ (p1.headD 0) (envOf ts (envB dB) ar) d else rowsFit ts (envOf ts (envB dB) ar) d := by
        unfold loopD
        rw [eFree, decide_eq_false nin]
        rfl
      rw [eL] at k no
      refine ⟨_, rfl, (by show 3 ≤ sizeLine; decide), fun tp htp => ?_⟩
      refine ⟨tp, _, rfl, .inr (.inl (.inl upd_same)), rfl, rfl, _, rfl, ?_⟩
      have s3 : Same H (upd H2 tp (.tup [.str "scan", .str "run", .str "seek"])) := s2.trans (same_new _ htp)
      generalize upd H2 tp (.tup [.str "scan", .str "run", .str "seek"]) = H3 at *
      have ein : inV (V.str z) ([("scan" : Str), "run", "seek"].map V.str) = decide (z = "scan" ∨ z = "run" ∨ z = "seek") := by
        rw [inV_str]
        exact decide_eq_decide.mpr (by simp)
      have ha3 := s3 _ _ ha
      obtain ⟨tv, bv, hwp, wr⟩ := W.same s3
      obtain ⟨erB, alB, ndB, l6⟩ := blk_all wr.bo
      show (if inV (V.str z) ([("scan" : Str), "run", "seek"].map V.str) = true then _ else _)
      rw [ein]
      refine ifd (fun yes => ?_) fun nrow => ?_
      · have ho : overE (kindD d) = false := by
          rw [ek]
          rcases yes with y | y | y <;> (rw [y]; decide)
        rw [if_neg (by rw [ho]; exact Bool.false_ne_true)] at k no
        unfold rowsFit at k no
        rw [ek] at k no
        refine ⟨_, rfl, wp, _, 0, tv, rfl, rfl, .inl (.inl hwp), ix0, _, rfl, a, _, 2, _, rfl, rfl, .inl (.inl ha3), atI_nat h2, ?_⟩
        refine ⟨tv, x2, tabsD ts, pt d 2, rfl, wr.t, rfl, fun c mc => ?_, t2.same s3, fun H4 s4 e4 => ?_, fun H4 c r s4 e4 tr => ?_⟩
        · obtain ⟨t9, _, rfl⟩ := List.mem_map.mp mc
          exact ⟨t9.1, _, rfl⟩
        · rcases find_tab (ts := ts) (d := pt d 2) with ⟨_, q⟩ | ⟨t2', mt2, et2, ef, efo⟩
          · have ef : foT ts (pt d 2) = [] := by
              cases y : foT ts (pt d 2) with
              | nil => rfl
              | cons _ _ =>
                obtain ⟨t9, mt9, e9, _⟩ := foT_in (ts := ts) (d := pt d 2) (by rw [y]; exact List.cons_ne_nil _ _)
                exact absurd e9 (q t9 mt9)
            refine ⟨_, rfl, rfl, _, rfl, ifd (fun _ => iteT (no (s3.trans s4) ?_)) fun y => absurd rfl y⟩
            rw [ef]
            split <;> rfl
          · have e4 : findR (ts.map (tabD false)) (pt d 2) = none := e4
            rw [ef] at e4
            cases e4
        · have e4 : findR (ts.map (tabD false)) (pt d 2) = some c := e4
          rcases find_tab (ts := ts) (d := pt d 2) with ⟨q, _⟩ | ⟨t9, mt9, et9, ef, efo⟩
          · rw [q] at e4; cases e4
          rw [ef] at e4
          obtain rfl := Option.some.inj e4
          rw [efo] at k no
          obtain ⟨p', c', rfl, hp', hc'⟩ := tab_in tr
          have s34 := s3.trans s4
          refine ⟨_, rfl, rfl, _, rfl, ifd (fun y => by cases y) fun _ => ?_⟩
          refine ⟨_, rfl, rfl, _, rfl, ifn (fun ns => ?_) fun es' => ?_⟩
          · have nsz : ¬ z = "scan" := fun q => ns (by rw [q])
            rw [if_neg nsz] at k no
            refine ⟨_, rfl, a, _, 3, _, rfl, rfl, .inl (.inl (s34 _ _ ha)), atI_nat h3, _, rfl, p', _, 1, _, rfl, rfl, .inl (.inl hp'), ix1, c', _, pt d 3, rfl, .inr (.inl (.inl hc')), t3.same s34, _, rfl, ?_⟩
            cases e5 : inS (pt d 3) t9.2 with
            | false =>
              rw [e5] at no
              exact iteT (no s34 rfl)
            | true =>
              rw [e5, Bool.true_and] at k
              refine iteF ⟨_, rfl, rfl, _, rfl, ifn (fun ns2 => ?_) fun es2 => ?_⟩
              · have hz : z = "run" := by
                  rcases yes with y | y | y
                  · exact absurd y nsz
                  · exact y
                  · exact absurd y (fun q => ns2 (by rw [q]))
                rw [decide_eq_true hz, Bool.true_or] at k
                exact k _ s34
              · have hz : z = "seek" := V.str.inj es2
                rw [decide_eq_false (show ¬ z = "run" by rw [hz]; decide), Bool.false_or] at k
                have l6 := parts_of en (m := 6) (by rw [hz]; rfl)
                obtain ⟨x4, h4, t4⟩ := at_ 4 (by omega)
                exact ⟨_, rfl, _, rfl, _, rfl, a, _, 4, _, rfl, rfl, .inl (.inl (s34 _ _ ha)), atI_nat h4, wp, .ref la, x4, ts, dB, pt d 4, ar, rfl, W.same s34, tav.same s34, ga, t4.same s34, fun H5 s5 => k _ (s34.trans s5)⟩
          · have hz : z = "scan" := V.str.inj es'
            rw [if_pos hz] at k
            have hne : t9.2.isEmpty = false := by
              have q := (wr.ok.ok t9 mt9).fs.lo
              cases y : t9.2 with
              | nil => rw [y] at q; exact absurd q (by show ¬ 1 ≤ 0; omega)
              | cons _ _ => rfl
            rw [hne] at k
            refine iteF ⟨_, rfl, rfl, _, rfl, ifn (fun _ => k _ s34) fun es2 => ?_⟩
            exact absurd (V.str.inj es2) (by rw [hz]; decide)
      · have ho : overE (kindD d) = true := by
          rw [ek]
          unfold partsN at en
          unfold overE
          by_cases q1 : z = "each"
          · rw [q1]; rfl
          by_cases q2 : z = "rise"
          · rw [q2]; rfl
          by_cases q3 : z = "look"
          · rw [q3]; rfl
          rw [if_neg (fun q => nrow (.inl q)), if_neg (fun q => nrow (.inr (.inl q))), if_neg (fun q => nrow (.inr (.inr q))), if_neg q1, if_neg q2, if_neg q3, if_neg nsame, if_neg nput] at en
          cases en
        rw [if_pos ho] at k no
        refine ⟨_, rfl, wp, _, 1, bv, rfl, rfl, .inl (.inl hwp), ix1, _, rfl, a, _, 2, _, rfl, rfl, .inl (.inl ha3), atI_nat h2, ?_⟩
        refine ⟨bv, x2, dB, pt d 2, rfl, wr.b, erB, fun c mc => ?_, t2.same s3, fun H4 s4 e4 => ?_, fun H4 c r s4 e4 tr => ?_⟩
        · obtain ⟨s9, f9, g9, rfl, _⟩ := blk_form (alB c mc)
          exact ⟨s9, _, rfl⟩
        · refine ⟨_, rfl, rfl, _, rfl, ifd (fun _ => iteT (no (s3.trans s4) ?_)) fun y => absurd rfl y⟩
          unfold entFit
          cases y : pt d 2 with
          | str b =>
            rw [y] at e4
            have q : envAt (envB dB) b = none := find_none alB e4
            simp only [q]
          | _ => rfl
        · obtain ⟨b, eb⟩ : ∃ b, pt d 2 = .str b := by
            cases y : pt d 2 with
            | str b => exact ⟨b, rfl⟩
            | _ => rw [y] at e4; cases e4
          rw [eb] at e4
          obtain ⟨mc, enm, eenv⟩ := find_blk alB e4
          obtain ⟨s9, f9, g9, rfl, enm9, ef9, eg9⟩ := blk_form (alB c mc)
          obtain rfl : s9 = b := enm
          obtain ⟨q, y1, y2, y3, rfl, hq, u1, u2, u3⟩ := tp3 tr
          obtain rfl : y1 = V.str s9 := u1.strI
          obtain ⟨fb, rfl, hfb⟩ := (nms_P ef9).strs u2
          have s34 := s3.trans s4
          have eE : entFit (envB dB) ⟨0, topsL (es.take n), []⟩ (p1.headD 0) (envOf ts (envB dB) ar) d = ((decide ((topsL (es.take n) s9).length = 1) && !decide ((topsL (es.take n) s9)[0]? = some (p1.headD 0))) && (if z = "rise" then inS (pt d 3) (namesD f9) else decide (z = "each") || termsD (envOf ts (envB dB) ar) (namesD f9).length (pt d 3))) := by
            unfold entFit
            have q9 : envAt (envB dB) s9 = some (namesD f9, namesD g9) := eenv
            simp only [eb, q9, enm9, Bool.true_and, ek]
          rw [eE] at k no
          refine ⟨_, rfl, rfl, _, rfl, ifd (fun y => by cases y) fun _ => ?_⟩
          have ln : n ≤ es.length := Nat.le_of_lt (List.getElem?_eq_some_iff.mp he).1
          refine ⟨_, rfl, rfl, _, rfl, ifd (fun er => ?_) fun nr => ?_⟩
          · have hz : z = "rise" := V.str.inj er
            rw [if_pos hz] at k no
            refine ⟨_, rfl, a, _, 3, _, rfl, rfl, .inl (.inl (s34 _ _ ha)), atI_nat h3, _, rfl, q, _, 1, _, rfl, rfl, .inl (.inl hq), ix1, fb, _, pt d 3, rfl, rw_sq hfb, t3.same s34, _, rfl, ?_⟩
            cases e5 : inS (pt d 3) (namesD f9) with
            | false =>
              rw [e5, Bool.and_false] at no
              exact iteT (no s34 rfl)
            | true =>
              rw [e5, Bool.and_true] at k
              refine iteF ⟨_, rfl, rfl, _, rfl, ifd (fun y => absurd (V.str.inj y) (by rw [hz]; decide)) fun _ => iteF ?_⟩
              refine ⟨_, rfl, _, rfl, _, rfl, q, _, 0, _, rfl, rfl, .inl (.inl hq), ix0, ?_⟩
              refine ⟨.ref fa, n, s9, es, rfl, hf.same s34, ln, le, ok, fun tp5 H6 s6 htp5 => ?_⟩
              have sT := s34.trans s6
              refine ⟨_, rfl, tp5, _, rfl, rw_sq (.inl htp5), rfl, _, rfl, ifd (fun y1 => ?_) fun n1 => ?_⟩
              · have l1 : (topsL (es.take n) s9).length = 1 := by
                  have y : (((natL (topsL (es.take n) s9)).length : Nat) : Int) = 1 := V.int.inj y1
                  rw [natL_len] at y
                  omega
                obtain ⟨tt, ett⟩ : ∃ tt, topsL (es.take n) s9 = [tt] := List.length_eq_one_iff.mp l1
                rw [ett] at k htp5
                refine ⟨_, rfl, tp5, _, 0, _, rfl, rfl, .inl (.inl htp5), ix0, _, rfl, pa, _, 0, _, rfl, rfl, .inl (.inl (sT _ _ hpa)), atI_nat h0p, rfl, ?_⟩
                have eq9 : (!decide (V.int ((tt : Nat) : Int) = V.int ((p1.headD 0 : Nat) : Int))) = (decide ([tt].length = 1) && !decide ([tt][0]? = some (p1.headD 0))) := by
                  rw [decide_eq_true (show [tt].length = 1 from rfl), Bool.true_and]
                  congr 1
                  exact decide_eq_decide.mpr ⟨fun y => by rw [Int.ofNat.inj (V.int.inj y)]; rfl, fun y => by rw [Option.some.inj (show some tt = some (p1.headD 0) from y)]⟩
                show Q (V.bl (!decide (V.int ((tt : Nat) : Int) = V.int ((p1.headD 0 : Nat) : Int)))) H6
                rw [eq9]
                exact k _ sT
              · have l1 : ¬ (topsL (es.take n) s9).length = 1 := fun y => n1 (by rw [natL_len, y]; rfl)
                rw [decide_eq_false l1] at k
                exact k _ sT
          · have nz : ¬ z = "rise" := fun y => nr (by rw [y])
            rw [if_neg nz] at k no
            refine iteF ⟨_, rfl, rfl, _, rfl, ifd (fun el => ?_) fun nl => ?_⟩
            · have hz : z = "look" := V.str.inj el
              rw [decide_eq_false (show ¬ z = "each" by rw [hz]; decide), Bool.false_or] at k no
              refine ⟨_, rfl, _, rfl, _, rfl, a, _, 3, _, rfl, rfl, .inl (.inl (s34 _ _ ha)), atI_nat h3, ?_⟩
              refine ⟨_, rfl, q, _, 1, _, rfl, rfl, .inl (.inl hq), ix1, fb, _, rfl, rw_sq hfb, ?_⟩
              have elen : ((namesD f9).map V.str).length = (namesD f9).length := List.length_map _
              rw [← elen] at k no
              refine ⟨wp, .ref la, x3, ((namesD f9).map V.str).length, ts, dB, pt d 3, ar, rfl, W.same s34, tav.same s34, ga, t3.same s34, fun H5 s5 => ⟨_, rfl, ?_⟩⟩
              have s35 := s34.trans s5
              have hq5 := s5 _ _ hq
              cases e5 : termsD (envOf ts (envB dB) ar) ((namesD f9).map V.str).length (pt d 3) with
              | false =>
                rw [e5, Bool.and_false] at no
                exact iteT (no s35 rfl)
              | true =>
                rw [e5, Bool.and_true] at k
                refine iteF ?_
                refine ⟨_, rfl, _, rfl, _, rfl, q, _, 0, _, rfl, rfl, .inl (.inl hq5), ix0, ?_⟩
                refine ⟨.ref fa, n, s9, es, rfl, hf.same s35, ln, le, ok, fun tp5 H6 s6 htp5 => ?_⟩
                have sT := s35.trans s6
                refine ⟨_, rfl, tp5, _, rfl, rw_sq (.inl htp5), rfl, _, rfl, ifd (fun y1 => ?_) fun n1 => ?_⟩
                · have l1 : (topsL (es.take n) s9).length = 1 := by
                    have y : (((natL (topsL (es.take n) s9)).length : Nat) : Int) = 1 := V.int.inj y1
                    rw [natL_len] at y
                    omega
                  obtain ⟨tt, ett⟩ : ∃ tt, topsL (es.take n) s9 = [tt] := List.length_eq_one_iff.mp l1
                  rw [ett] at k htp5
                  refine ⟨_, rfl, tp5, _, 0, _, rfl, rfl, .inl (.inl htp5), ix0, _, rfl, pa, _, 0, _, rfl, rfl, .inl (.inl (sT _ _ hpa)), atI_nat h0p, rfl, ?_⟩
                  have eq9 : (!decide (V.int ((tt : Nat) : Int) = V.int ((p1.headD 0 : Nat) : Int))) = (decide ([tt].length = 1) && !decide ([tt][0]? = some (p1.headD 0))) := by
                    rw [decide_eq_true (show [tt].length = 1 from rfl), Bool.true_and]
                    congr 1
                    exact decide_eq_decide.mpr ⟨fun y => by rw [Int.ofNat.inj (V.int.inj y)]; rfl, fun y => by rw [Option.some.inj (show some tt = some (p1.headD 0) from y)]⟩
                  show Q (V.bl (!decide (V.int ((tt : Nat) : Int) = V.int ((p1.headD 0 : Nat) : Int)))) H6
                  rw [eq9]
                  exact k _ sT
                · have l1 : ¬ (topsL (es.take n) s9).length = 1 := fun y => n1 (by rw [natL_len, y]; rfl)
                  rw [decide_eq_false l1] at k
                  exact k _ sT
            · have hz : z = "each" := by
                rw [ek] at ho
                unfold overE at ho
                simp only [Bool.or_eq_true, decide_eq_true_eq] at ho
                rcases ho with y | y | y
                · exact y
                · exact absurd y nz
                · exact absurd (by rw [y]) nl
              rw [decide_eq_true hz, Bool.true_or, Bool.and_true] at k
              refine iteF ?_
              refine ⟨_, rfl, _, rfl, _, rfl, q, _, 0, _, rfl, rfl, .inl (.inl hq), ix0, ?_⟩
              refine ⟨.ref fa, n, s9, es, rfl, hf.same s34, ln, le, ok, fun tp5 H6 s6 htp5 => ?_⟩
              have sT := s34.trans s6
              refine ⟨_, rfl, tp5, _, rfl, rw_sq (.inl htp5), rfl, _, rfl, ifd (fun y1 => ?_) fun n1 => ?_⟩
              · have l1 : (topsL (es.take n) s9).length = 1 := by
                  have y : (((natL (topsL (es.take n) s9)).length : Nat) : Int) = 1 := V.int.inj y1
                  rw [natL_len] at y
                  omega
                obtain ⟨tt, ett⟩ : ∃ tt, topsL (es.take n) s9 = [tt] := List.length_eq_one_iff.mp l1
                rw [ett] at k htp5
                refine ⟨_, rfl, tp5, _, 0, _, rfl, rfl, .inl (.inl htp5), ix0, _, rfl, pa, _, 0, _, rfl, rfl, .inl (.inl (sT _ _ hpa)), atI_nat h0p, rfl, ?_⟩
                have eq9 : (!decide (V.int ((tt : Nat) : Int) = V.int ((p1.headD 0 : Nat) : Int))) = (decide ([tt].length = 1) && !decide ([tt][0]? = some (p1.headD 0))) := by
                  rw [decide_eq_true (show [tt].length = 1 from rfl), Bool.true_and]
                  congr 1
                  exact decide_eq_decide.mpr ⟨fun y => by rw [Int.ofNat.inj (V.int.inj y)]; rfl, fun y => by rw [Option.some.inj (show some tt = some (p1.headD 0) from y)]⟩
                show Q (V.bl (!decide (V.int ((tt : Nat) : Int) = V.int ((p1.headD 0 : Nat) : Int)))) H6
                rw [eq9]
                exact k _ sT
              · have l1 : ¬ (topsL (es.take n) s9).length = 1 := fun y => n1 (by rw [natL_len, y]; rfl)
                rw [decide_eq_false l1] at k
                exact k _ sT
end
end Fm

/-! ## K08LL -/
set_option Elab.async false
set_option maxRecDepth 100000
set_option maxHeartbeats 8000000
namespace Fm
open PySem L2
def askE (acc : List Str) (e : Ent) : List Str := if overE (kindD e.2.1) = true then (if nameD (pt e.2.1 2) ∈ acc then acc else acc ++ [nameD (pt e.2.1 2)]) else acc
def askL (es : List Ent) : List Str := es.foldl askE []
/-- the reader's state, told by the entries that were read -/
structure StOf (st : RS) (es : List Ent) : Prop where
  m : st.many = es.length
  t : ∀ b, st.tops b = topsL es b
  a : st.asked = askL es
  o : ∀ e ∈ es, EntOk e
theorem stOf_step {ts : List Tab} {bs : Env} {st st' : RS} {es : List Ent} {e : Ent} (I : StOf st es) (np : e.1 ≠ []) (h : stepE ts bs st e = .ok st') : StOf st' (es ++ [e]) := by
  have mm := step_many h
  unfold stepE at h
  split at h
  · cases h
  · rename_i q
    have fit : fitsD ts bs (moreS st) (e.1.headD 0) (envOf ts bs e.2.2) e.2.1 = true := by
      cases y : fitsD ts bs (moreS st) (e.1.headD 0) (envOf ts bs e.2.2) e.2.1 with
      | true => rfl
      | false => exact absurd (.inr (.inr y)) q
    have es' : noteS (moreS st) (e.1.headD 0) e.2.1 = st' := Except.ok.inj h
    unfold fitsD at fit
    rw [Bool.and_eq_true] at fit
    obtain ⟨hp, fit⟩ := fit
    have eT : ∀ b, topsL (es ++ [e]) b = topE b (st.tops b) e := fun b => by rw [topsL_snoc, I.t b]
    have eA : askL (es ++ [e]) = askE st.asked e := by
      rw [I.a]
      unfold askL
      rw [List.foldl_append]
      rfl
    by_cases ep : kindD e.2.1 = "put"
    · rw [if_pos ep] at fit
      obtain ⟨b, eb, nin⟩ : ∃ b, pt e.2.1 1 = .str b ∧ e.1.headD 0 ∉ st.tops b := by
        unfold putFit putFit3 at fit
        cases y : pt e.2.1 1 with
        | str b =>
          cases w : envAt bs b with
          | some p =>
            simp only [y, w, Bool.and_eq_true, Bool.not_eq_true', decide_eq_false_iff_not] at fit
            exact ⟨b, rfl, fit.2.1.1⟩
          | none => simp only [y, w] at fit; cases fit
        | _ => simp only [y] at fit; cases fit
      have no : overE (kindD e.2.1) = false := by rw [ep]; rfl
      unfold noteS at es'
      rw [if_pos ep] at es'
      subst es'
      refine ⟨by rw [List.length_append]; exact congrArg (· + 1) I.m, fun b' => ?_, ?_, fun u mu => ?_⟩
      · rw [eT b']
        show (if nameD (pt e.2.1 1) = b' then st.tops b' ++ [e.1.headD 0] else st.tops b') = topE b' (st.tops b') e
        unfold topE
        rw [eb]
        by_cases y : nameD (.str b) = b'
        · have y2 : b = b' := y
          subst y2
          rw [if_pos y, if_pos ⟨ep, y, nin⟩]
        · rw [if_neg y, if_neg (fun z => y z.2.1)]
      · rw [eA]
        unfold askE
        rw [no]
        rfl
      · rcases List.mem_append.mp mu with z | z
        · exact I.o u z
        · rw [List.mem_singleton] at z
          rw [z]
          exact ⟨hp, fun _ => ⟨b, eb⟩, np, fun z => by rw [no] at z; cases z⟩
    · have ob : overE (kindD e.2.1) = true → ∃ b, pt e.2.1 2 = .str b := fun ov => by
        have ns : kindD e.2.1 ≠ "same" := fun q => by rw [q] at ov; exact absurd ov (by decide)
        rw [if_neg ep, if_neg ns, if_pos ov, Bool.and_eq_true, Bool.and_eq_true] at fit
        have fi := fit.2.2
        unfold entFit at fi
        cases y : pt e.2.1 2 with
        | str b => exact ⟨b, rfl⟩
        | _ => simp only [y] at fi; cases fi
      have oe : EntOk e := ⟨hp, fun z => absurd z ep, np, ob⟩
      have o' : ∀ u ∈ es ++ [e], EntOk u := fun u mu => by
        rcases List.mem_append.mp mu with z | z
        · exact I.o u z
        · rw [List.mem_singleton] at z
          rw [z]
          exact oe
      have tE : ∀ b, st.tops b = topE b (st.tops b) e := fun b => by
        unfold topE
        rw [if_neg (fun z => ep z.1)]
      unfold noteS at es'
      rw [if_neg ep] at es'
      by_cases ov : overE (kindD e.2.1) = true
      · rw [if_pos ov] at es'
        subst es'
        refine ⟨by rw [List.length_append]; exact congrArg (· + 1) I.m, fun b' => by rw [eT b', ← tE b']; rfl, ?_, o'⟩
        rw [eA]
        unfold askE
        rw [if_pos ov]
        rfl
      · rw [if_neg ov] at es'
        subst es'
        refine ⟨by rw [List.length_append]; exact congrArg (· + 1) I.m, fun b' => by rw [eT b', ← tE b']; rfl, ?_, o'⟩
        rw [eA]
        unfold askE
        rw [if_neg ov]
        rfl
theorem stOf_fold {ts : List Tab} {bs : Env} : ∀ (fs : List Ent) {st st' : RS} {es : List Ent}, StOf st es → (∀ e ∈ fs, e.1 ≠ []) → foldE ts bs st fs = .ok st' → StOf st' (es ++ fs)
  | [], st, st', es, I, _, h => by
    rw [List.append_nil]
    have y : st = st' := Except.ok.inj h
    rw [← y]
    exact I
  | e :: fs, st, st', es, I, np, h => by
    have h : thenE (stepE ts bs st e) (fun st2 => foldE ts bs st2 fs) = .ok st' := h
    cases q : stepE ts bs st e with
    | error p => rw [q] at h; cases h
    | ok st2 =>
      rw [q] at h
      have y := stOf_fold fs (stOf_step I (np e List.mem_cons_self) q) (fun u m => np u (List.mem_cons_of_mem _ m)) h
      rw [List.append_assoc] at y
      exact y
theorem stOf_0 : StOf rs0 [] := ⟨rfl, fun _ => rfl, rfl, fun _ m => by cases m⟩
end Fm

/-! ## K08LM -/
set_option Elab.async false
set_option maxRecDepth 100000
set_option maxHeartbeats 8000000
namespace Fm
open PySem L2
theorem fits_good {ts : List Tab} {dB : PyData} {st : RS} {top : Nat} {env : Env} {d : PyData} (hB : blocksBad ts dB = none) (fit : fitsD ts (envB dB) st top env d = true) (np : kindD d ≠ "put") (ns : kindD d ≠ "same") : GoodB ts dB d := by
  obtain ⟨erB, alB, _, _⟩ := blk_all hB
  unfold fitsD at fit
  rw [if_neg np, if_neg ns, Bool.and_eq_true, Bool.and_eq_true, Bool.and_eq_true] at fit
  obtain ⟨hp, _, fr, fi⟩ := fit
  refine ⟨hp, ?_, ?_⟩
  · cases y : pt d 1 with
    | str n =>
      rw [y] at fr
      have fr : (isNm n && !(envAt env n).isSome) = true := fr
      rw [Bool.and_eq_true] at fr
      exact ⟨n, rfl, fr.1⟩
    | _ => rw [y] at fr; cases fr
  · by_cases ov : overE (kindD d) = true
    · rw [if_pos ov] at fi
      refine .inl ⟨ov, ?_⟩
      unfold entFit at fi
      cases y : pt d 2 with
      | str b =>
        cases w : envAt (envB dB) b with
        | some p =>
          cases q : findR (partsD dB) (.str b) with
          | some c => exact ⟨c, rfl⟩
          | none =>
            have z : envAt (envB dB) b = none := find_none alB q
            rw [z] at w
            cases w
        | none => simp only [y, w] at fi; cases fi
      | _ => simp only [y] at fi; cases fi
    · rw [if_neg ov] at fi
      refine .inr ⟨?_, ?_⟩
      · cases d with
        | tuple ds =>
          cases ds with
          | nil => cases hp
          | cons c ds =>
            cases c with
            | str z =>
              have en : partsN z = some (ds.length + 1) := of_decide_eq_true hp
              have np : z ≠ "put" := np
              have ns : z ≠ "same" := ns
              have ov : ¬ overE z = true := ov
              show z = "scan" ∨ z = "run" ∨ z = "seek"
              by_cases q1 : z = "scan"
              · exact .inl q1
              by_cases q2 : z = "run"
              · exact .inr (.inl q2)
              by_cases q3 : z = "seek"
              · exact .inr (.inr q3)
              exfalso
              unfold overE at ov
              simp only [Bool.or_eq_true, decide_eq_true_eq, not_or] at ov
              unfold partsN at en
              rw [if_neg q1, if_neg q2, if_neg q3, if_neg ov.1, if_neg ov.2.1, if_neg ov.2.2, if_neg ns, if_neg np] at en
              cases en
            | _ => cases hp
        | _ => cases hp
      · have ne : foT ts (pt d 2) ≠ [] := by
          unfold rowsFit at fi
          split at fi
          · intro y
            rw [y] at fi
            cases fi
          · rw [Bool.and_eq_true] at fi
            exact inS_ne fi.1
        obtain ⟨t, mt, e2, _⟩ := foT_in ne
        exact ⟨t, mt, e2⟩
/-- what holds of each entry that is reached -/
def Reach (ts : List Tab) (bs : Env) (P : Ent → Prop) : RS → List Ent → Prop
  | _, [] => True
  | st, e :: es => P e ∧ ∀ st', stepE ts bs st e = .ok st' → Reach ts bs P st' es
theorem reach_app {ts : List Tab} {bs : Env} {P : Ent → Prop} : ∀ {a b : List Ent} {st : RS}, Reach ts bs P st a → (∀ st', foldE ts bs st a = .ok st' → Reach ts bs P st' b) → Reach ts bs P st (a ++ b)
  | [], b, st, _, h => h st rfl
  | e :: a, b, st, h1, h2 => by
    refine ⟨h1.1, fun st' q => reach_app (h1.2 st' q) fun st2 q2 => h2 st2 ?_⟩
    show thenE (stepE ts bs st e) _ = _
    rw [q]
    exact q2
theorem reachL {ts : List Tab} {bs : Env} {P : Ent → Prop} {g : List Nat → PyData → List Ent} {path : List Nat} (h : ∀ i st d, Reach ts bs P st (g (path ++ [i]) d)) : ∀ (ds : List PyData) (i : Nat) (st : RS), Reach ts bs P st (flatL g path i ds)
  | [], _, _ => trivial
  | d :: ds, i, st => reach_app (h i st d) fun st' _ => reachL h ds (i + 1) st'
def EntGood (ts : List Tab) (dB : PyData) (e : Ent) : Prop := (∀ s ∈ e.2.2, GoodB ts dB s) ∧ e.1 ≠ [] ∧ e.2.2.length < e.1.length
theorem good_flat {ts : List Tab} {dB : PyData} (hB : blocksBad ts dB = none) : ∀ (n : Nat) (p : List Nat) (ar : List PyData) (d : PyData) (st : RS), (∀ s ∈ ar, GoodB ts dB s) → ar.length < p.length → Reach ts (envB dB) (EntGood ts dB) st (flatS n p ar d)
  | 0, p, ar, d, st, ga, la => ⟨⟨ga, (fun q => by have q : p = [] := q; rw [q] at la; cases la), la⟩, fun _ _ => trivial⟩
  | n + 1, p, ar, d, st, ga, la => by
    refine ⟨⟨ga, (fun q => by have q : p = [] := q; rw [q] at la; cases la), la⟩, fun st' h => ?_⟩
    by_cases eg : goesIn d = true
    · rw [if_pos eg]
      have np : kindD d ≠ "put" := fun q => by
        unfold goesIn at eg
        rw [q] at eg
        simp at eg
      refine reachL (fun i st2 d2 => good_flat hB n (p ++ [i]) (innerL ar d) d2 st2 (fun s ms => ?_) ?_) _ 0 st'
      · unfold innerL at ms
        split at ms
        · exact ga s ms
        · rename_i ns
          rcases List.mem_append.mp ms with z | z
          · exact ga s z
          · rw [List.mem_singleton] at z
            rw [z]
            unfold stepE at h
            split at h
            · cases h
            · rename_i q
              have fit : fitsD ts (envB dB) (moreS st) (p.headD 0) (envOf ts (envB dB) ar) d = true := by
                cases y : fitsD ts (envB dB) (moreS st) (p.headD 0) (envOf ts (envB dB) ar) d with
                | true => rfl
                | false => exact absurd (.inr (.inr y)) q
              exact fits_good hB fit np ns
      · rw [List.length_append]
        unfold innerL
        split
        · show _ < p.length + 1
          omega
        · rw [List.length_append]
          show ar.length + 1 < p.length + 1
          omega
    · rw [if_neg eg]
      trivial
end Fm

/-! ## K08LN -/
set_option Elab.async false
set_option maxRecDepth 100000
set_option maxHeartbeats 8000000
namespace Fm
open PySem L2
theorem askL_mem (b : Str) : ∀ (es : List Ent) (acc : List Str), b ∈ es.foldl askE acc ↔ b ∈ acc ∨ ∃ u ∈ es, overE (kindD u.2.1) = true ∧ nameD (pt u.2.1 2) = b
  | [], acc => by simp
  | e :: es, acc => by
    rw [List.foldl_cons, askL_mem b es]
    have h : b ∈ askE acc e ↔ b ∈ acc ∨ (overE (kindD e.2.1) = true ∧ nameD (pt e.2.1 2) = b) := by
      unfold askE
      by_cases o : overE (kindD e.2.1) = true
      · rw [if_pos o]
        by_cases m : nameD (pt e.2.1 2) ∈ acc
        · rw [if_pos m]
          exact ⟨.inl, fun q => q.elim id fun q => q.2 ▸ m⟩
        · rw [if_neg m, List.mem_append, List.mem_singleton]
          exact ⟨fun q => q.elim .inl fun q => .inr ⟨o, q.symm⟩, fun q => q.elim .inl fun q => .inr q.2.symm⟩
      · rw [if_neg o]
        exact ⟨.inl, fun q => q.elim id fun q => absurd q.1 o⟩
    rw [h]
    constructor
    · rintro ((q | q) | ⟨u, m, q⟩)
      · exact .inl q
      · exact .inr ⟨e, List.mem_cons_self, q⟩
      · exact .inr ⟨u, List.mem_cons_of_mem _ m, q⟩
    · rintro (q | ⟨u, m, q⟩)
      · exact .inl (.inl q)
      · rcases List.mem_cons.mp m with z | z
        · exact .inl (.inr (z ▸ q))
        · exact .inr ⟨u, z, q⟩
section
variable {P : Program} {w : World} {K : PySem.W.Frag} {mg : Str → Option Value} {base : Heap} {CS CG CRd PD CN CBP CBB CBS : Addr}
def spPutL : Sp := fun vs H Q _ => ∃ (wp : Addr) (fv : V) (n : Nat) (es : List Ent) (e : Ent) (ts : List Tab) (dB : PyData), vs = [.ref wp, fv, .int (n : Nat)] ∧ WpAt H wp ts dB ∧ Tp H fv (.list (es.map entD)) ∧ es[n]? = some e ∧ es.length ≤ 42 ∧ (∀ u ∈ es.take n, EntOk u) ∧ hasPD e.2.1 = true ∧ kindD e.2.1 = "put" ∧ e.1 ≠ [] ∧ (∀ s ∈ e.2.2, GoodB ts dB s) ∧ e.2.2.length ≤ 9 ∧ mst e.2.1 ≤ 100000 ∧
  ∀ H', Same H H' → Q (.bl (putFit (envB dB) ⟨0, topsL (es.take n), askL (es.take n)⟩ (e.1.headD 0) (envOf ts (envB dB) e.2.2) e.2.1)) H'
abbrev s_l_right_put : Stmt := topS 71
abbrev sc_l_right_putN : List Str := ["_law_world", "_law_flat_here", "_law_k", "_law_path", "_law_statement", "_law_around", "_law_block", "_law_entry", "_law_products", "_law_one"]
abbrev ps_l_right_put : List Str := ["_law_world", "_law_flat_here", "_law_k"]
theorem sc_l_right_put : FnScope sc_l_right_putN ps_l_right_put (defScope s_l_right_put) := ⟨rfl, rfl, rfl, by decide +kernel, rfl, by decide +kernel, by decide +kernel⟩
theorem ok_l_right_put {f : Addr} {fd : FuncData} (F : Fun K "_law_right_put" "_law_right_put" s_l_right_put f fd) (T : Txt K mg CS) (D_l_row : Df P w K mg base "_law_row" 1 ps_l_row spRowL) (D_l_named_row : Df P w K mg base "_law_named_row" 1 ps_l_named_row spNamedRow) (D_l_right_terms : Df P w K mg base "_law_right_terms" 5 ps_l_right_terms spTermsL) (D_l_tops_ahead : Df P w K mg base "_law_tops_ahead" 1 ps_l_tops_ahead spTops) (D_l_right_product : Df P w K mg base "_law_right_product" 4 ps_l_right_product spProdL) : FnOk P w K mg base CX0 6 f fd ps_l_right_put spPutL := by
  refine F.ok sc_l_right_put (fun vs H Q E h => ?_) (fun cdv A outer s H vs Q E hr h => ?_)
  · obtain ⟨_, _, _, _, _, _, _, rfl, _⟩ := h
    rfl
  · obtain ⟨wp, fv, n, es, e, ts, dB, rfl, W, hf, he, le, ok, hp, hk, np, ga, lar, hm, k⟩ := h
    refine ⟨_, (pss_cons (ps_asg (pe_ix ix_list (pv 1) (pv 2) (fun _ _ => rfl)) (pg_tup (by rfl) (pgs_cons (pg_name (i := 3) sc_l_right_put.nd rfl (Or.inl rfl)) (pgs_cons (pg_name (i := 4) sc_l_right_put.nd rfl (Or.inl rfl)) (pgs_cons (pg_name (i := 5) sc_l_right_put.nd rfl (Or.inl rfl)) pgs_nil)))))
  (pss_cons (ps_set (i := 6) sc_l_right_put.nd rfl (Or.inl rfl) (pe_d D_l_named_row (hr.mono (by decide)) (pa_cons (pe_ix ix_tup (pv 0) pe_int (fun _ _ => rfl)) (pa_cons (pe_ix ix_tup (pv 4) pe_int (fun _ _ => rfl)) pa_nil))))
  (pss_cons (ps_if (PW.pt (pw_or (pt_cmpR op_isN (pv 6) pe_non (nomark _)) (pw_or1 (pt_not (pt_val (pe_d D_l_right_terms (hr.mono (by decide)) (pa_cons (pv 0) (pa_cons (pv 5) (pa_cons (pe_ix ix_tup (pv 4) pe_int (fun _ _ => rfl)) (pa_cons (pe_callB call_len_seq (by rfl) T.n_len (by decide +kernel) (pa_cons (pe_ix ix_tup (pv 6) pe_int (fun _ _ => rfl)) pa_nil)) pa_nil))))))))))
    (pss_one (ps_ret pe_bl))
    pss_nil)
  (pss_cons (ps_for PassesOwn.never rfl (pi_any (pe_slice sl_list (pv 1) po_none (po_some (pv 2)))) (pg_name (i := 7) sc_l_right_put.nd rfl (Or.inl rfl))
    (pss_one (ps_if (PW.pt (pw_and (pt_cmpR op_in_seq (pe_ix ix_tup (pe_ix ix_tup (pv 7) pe_int (fun _ _ => rfl)) pe_int (fun _ _ => rfl)) (pe_tup (pa_cons pe_str (pa_cons pe_str (pa_cons pe_str pa_nil)))) (by rfl)) (pw_and1 (pt_cmpR op_eq (pe_ix ix_tup (pe_ix ix_tup (pv 7) pe_int (fun _ _ => rfl)) pe_int (fun _ _ => rfl)) (pe_ix ix_tup (pv 6) pe_int (fun _ _ => rfl)) (nomark _)))))
      (pss_one (ps_ret pe_bl))
      pss_nil)))
  (pss_cons (ps_if (pt_cmpR op_in_seq (pe_ix ix_tup (pv 3) pe_int (fun _ _ => rfl)) (pe_d D_l_tops_ahead (hr.mono (by decide)) (pa_cons (pv 1) (pa_cons (pv 2) (pa_cons (pe_ix ix_tup (pv 6) pe_int (fun _ _ => rfl)) pa_nil)))) (by rfl))
    (pss_one (ps_ret pe_bl))
    pss_nil)
  (pss_cons (ps_if (PW.pt (pw_or (pt_not (pt_val (pe_d D_l_row (hr.mono (by decide)) (pa_cons (pe_ix ix_tup (pv 4) pe_int (fun _ _ => rfl)) pa_nil)))) (pw_or1 (pt_cmpR op_ne (pe_callB call_len_seq (by rfl) T.n_len (by decide +kernel) (pa_cons (pe_ix ix_tup (pv 4) pe_int (fun _ _ => rfl)) pa_nil)) (pe_callB call_len_seq (by rfl) T.n_len (by decide +kernel) (pa_cons (pe_ix ix_tup (pv 6) pe_int (fun _ _ => rfl)) pa_nil)) (nomark _)))))
    (pss_one (ps_ret pe_bl))
    pss_nil)
  (pss_cons (ps_for PassesOwn.never rfl (pi_any (pe_ix ix_tup (pv 4) pe_int (fun _ _ => rfl))) (pg_name (i := 8) sc_l_right_put.nd rfl (Or.inl rfl))
    (pss_cons (ps_if (PW.pt (pw_or (pt_not (pt_val (pe_d D_l_row (hr.mono (by decide)) (pa_cons (pv 8) pa_nil)))) (pw_or1 (pt_cmpR op_gt (pe_callB call_len_seq (by rfl) T.n_len (by decide +kernel) (pa_cons (pv 8) pa_nil)) pe_int (nomark _)))))
      (pss_one (ps_ret pe_bl))
      pss_nil)
    (pss_one (ps_for PassesOwn.never rfl (pi_any (pv 8)) (pg_name (i := 9) sc_l_right_put.nd rfl (Or.inl rfl))
      (pss_one (ps_if (pt_not (pt_val (pe_d D_l_right_product (hr.mono (by decide)) (pa_cons (pv 0) (pa_cons (pv 5) (pa_cons (pv 9) pa_nil))))))
        (pss_one (ps_ret pe_bl))
        pss_nil))))))
  (pss_one (ps_ret pe_bl))))))))), ?_⟩
    obtain ⟨fa, fxs, rfl, hfa, tfa⟩ := hf.list
    have heD : (es.map entD)[n]? = some (entD e) := by rw [List.getElem?_map, he]; rfl
    obtain ⟨ve, hve, tve⟩ := tfa.to heD
    obtain ⟨t, pa, sv, av, pxs, rfl, ht, hpa, h0p, tpa, tsv, tav⟩ := ent_at tve np
    refine ⟨_, rfl, _, rfl, fa, fxs, n, _, rfl, rfl, .inl (.inl hfa), atI_nat hve, t, _, rfl, .inl (.inl ht), rfl, _, _, rfl, _, _, rfl, _, _, rfl, rfl, ?_⟩
    obtain ⟨p1, d, ar⟩ := e
    have np : p1 ≠ [] := np
    have tsv : Tp H sv d := tsv
    have tav : Tp H av (.list ar) := tav
    have hp : hasPD d = true := hp
    have hk : kindD d = "put" := hk
    have ga : ∀ s ∈ ar, GoodB ts dB s := ga
    have lar : ar.length ≤ 9 := lar
    have hm : mst d ≤ 100000 := hm
    have k : ∀ H', Same H H' → Q (.bl (putFit (envB dB) ⟨0, topsL (es.take n), askL (es.take n)⟩ (p1.headD 0) (envOf ts (envB dB) ar) d)) H' := k
    obtain ⟨a, xs, z, ds, rfl, ha, ed, en, ek, at_, h0, ta⟩ := st_at tsv hp
    rw [ek] at hk
    subst hk
    have l3 := parts_of en (m := 4) rfl
    obtain ⟨x1, h1, t1⟩ := at_ 1 (by omega)
    obtain ⟨x2, h2, t2⟩ := at_ 2 (by omega)
    obtain ⟨x3, h3, t3⟩ := at_ 3 (by omega)
    unfold putFit at k
    generalize pt d 1 = d1 at *
    generalize pt d 2 = d2 at *
    generalize pt d 3 = d3 at *
    obtain ⟨tv, bv, hwp, wr⟩ := W
    obtain ⟨erB, alB, ndB, l6⟩ := blk_all wr.bo
    refine ⟨_, rfl, wp, _, 1, bv, rfl, rfl, .inl (.inl hwp), ix1, _, rfl, a, _, 1, _, rfl, rfl, .inl (.inl ha), atI_nat h1, ?_⟩
    refine ⟨bv, x1, dB, d1, rfl, wr.b, erB, fun c mc => ?_, t1, fun H4 s4 e4 => ?_, fun H4 c r s4 e4 tr => ?_⟩
    · obtain ⟨s9, f9, g9, rfl, _⟩ := blk_form (alB c mc)
      exact ⟨s9, _, rfl⟩
    · refine ⟨_, rfl, rfl, _, rfl, ifd (fun _ => iteT ?_) fun y => absurd rfl y⟩
      have k := k _ s4
      unfold putFit3 at k
      cases d1 with
      | str b =>
        have q : envAt (envB dB) b = none := find_none alB e4
        simp only [q] at k
        exact k
      | _ => exact k
    · obtain ⟨b, rfl⟩ : ∃ b, d1 = .str b := by
        cases d1 with
        | str b => exact ⟨b, rfl⟩
        | _ => cases e4
      obtain ⟨mc, enm, eenv⟩ := find_blk alB e4
      obtain ⟨s9, f9, g9, rfl, enm9, ef9, eg9⟩ := blk_form (alB c mc)
      obtain rfl : s9 = b := enm
      obtain ⟨q, y1, y2, y3, rfl, hq, u1, u2, u3⟩ := tp3 tr
      obtain rfl : y1 = V.str s9 := u1.strI
      obtain ⟨fb, rfl, hfb⟩ := (nms_P ef9).strs u2
      obtain ⟨gb, rfl, hgb⟩ := (nms_P eg9).strs u3
      have q9 : envAt (envB dB) s9 = some (namesD f9, namesD g9) := eenv
      unfold putFit3 at k
      simp only [q9, enm9, Bool.true_and] at k
      refine ⟨_, rfl, rfl, _, rfl, ifd (fun y => by cases y) fun _ => ?_⟩
      have W : WpAt H wp ts dB := ⟨tv, bv, hwp, wr⟩
      have ha4 := s4 _ _ ha
      refine ⟨_, rfl, _, rfl, _, rfl, a, _, 2, _, rfl, rfl, .inl (.inl ha4), atI_nat h2, ?_⟩
      refine ⟨_, rfl, q, _, 1, _, rfl, rfl, .inl (.inl hq), ix1, fb, _, rfl, rw_sq hfb, ?_⟩
      have elen : ((namesD f9).map V.str).length = (namesD f9).length := List.length_map _
      have elen2 : ((namesD g9).map V.str).length = (namesD g9).length := List.length_map _
      rw [← elen, ← elen2] at k
      generalize hA : termsD (envOf ts (envB dB) ar) ((namesD f9).map V.str).length d2 = A at *
      generalize hB : rowD3 (((namesD g9).map V.str).length : Nat) (((namesD g9).map V.str).length : Nat) d3 = B at *
      have no : ∀ {H'}, Same H H' → ((!decide (p1.headD 0 ∈ topsL (es.take n) s9) && !decide (s9 ∈ askL (es.take n))) && ((A && B) && (partsD d3).all (prodsD (envOf ts (envB dB) ar)))) = false → Q (.bl false) H' := fun s e => by
        have q := k _ s
        rw [← e]
        exact q
      refine ⟨wp, av, x2, ((namesD f9).map V.str).length, ts, dB, d2, ar, rfl, W.same s4, tav.same s4, ga, t2.same s4, fun H5 s5 => ⟨_, rfl, ?_⟩⟩
      have s45 := s4.trans s5
      rw [hA]
      cases A with
      | false => exact iteT (no s45 (by simp))
      | true =>
        refine iteF ?_
        have ln : n ≤ es.length := Nat.le_of_lt (List.getElem?_eq_some_iff.mp he).1
        refine ⟨_, rfl, _, rfl, _, rfl, fa, fxs, rfl, .inl (.inl (s45 _ _ hfa)), fun fa2 hfa2 => ?_⟩
        have lfx := tfa.len
        rw [List.length_map] at lfx
        have gr : Grow H5 H5 (upd H5 fa2 (.lst (cutV fxs none (some ((n : Nat) : Int))))) (upd H5 fa2 (.lst (cutV fxs none (some ((n : Nat) : Int))))) := Grow.new (Same.refl _) _ hfa2
        have haF : (upd H5 fa2 (.lst (cutV fxs none (some ((n : Nat) : Int))))) fa2 = some (.lst (cutV fxs none (some ((n : Nat) : Int)))) := upd_same
        have tz : TpAll (upd H5 fa2 (.lst (cutV fxs none (some ((n : Nat) : Int))))) (cutV fxs none (some ((n : Nat) : Int))) ((es.take n).map entD) := by
          unfold cutV
          rw [HT.sIx_none, HT.sIx_nat, lfx, Nat.min_eq_left ln, List.drop_zero, Nat.sub_zero, List.map_take]
          exact (tfa.take n).same (s45.trans (same_new _ hfa2))
        generalize upd H5 fa2 (.lst (cutV fxs none (some ((n : Nat) : Int)))) = H2 at *
        generalize cutV fxs none (some ((n : Nat) : Int)) = zs at *
        have lz := tz.len
        rw [List.length_map, List.length_take, Nat.min_eq_left ln] at lz
        have s52 : Same H5 H2 := gr.same (Same.refl _)
        have s2 := s45.trans s52
        have ha2 : Rw H2 fa2 zs := .inl haF
        refine ⟨fa2, zs, rfl, any_of (K := K) (rw_sq ha2) (Same.refl _) fun J G gm wk => ?_⟩
        refine for_it wk (fun i σ H' => ∃ v7, σ = [some (.ref wp), some (.ref fa), some (.int (n : Nat)), some (.ref pa), some (.ref a), some av, some (.ref q), v7, none, none] ∧ Same H2 H' ∧ s9 ∉ askL ((es.take n).take i)) ⟨_, rfl, Same.refl _, fun y => by cases y⟩ (fun i σ H' _ z => by obtain ⟨_, _, z, _⟩ := z; exact gm H' z) ?_ ?_
        · rintro i x σ H6 H3 hi ⟨v7, rfl, s3, nin⟩ ⟨rfl, hxi⟩
          obtain ⟨c, hc, tc⟩ := tz.at hxi
          rw [List.getElem?_map] at hc
          obtain ⟨e, he2, rfl⟩ := Option.map_eq_some_iff.mp hc
          have oe := ok e (List.mem_of_getElem? he2)
          obtain ⟨t, pa2, sv, av2, pxs2, rfl, ht2, hpa2, h02, _, tsv2, _⟩ := ent_at (tc.same s3) oe.n
          obtain ⟨a9, x9, z9, ds9, rfl, hsa, ed9, epn, ek9, at9, h09, ta9⟩ := st_at tsv2 oe.p
          have eS : askL ((es.take n).take (i + 1)) = askE (askL ((es.take n).take i)) e := by
            rw [List.take_add_one, he2]
            show askL ((es.take n).take i ++ [e]) = _
            unfold askL
            rw [List.foldl_append]
            rfl
          refine ⟨_, rfl, t, _, 1, _, rfl, rfl, .inl (.inl ht2), ix1, a9, _, 0, _, rfl, rfl, .inl (.inl hsa), atI_nat h09, (by show 3 ≤ sizeLine; decide), fun tp htp => ?_⟩
          have s36 : Same H3 (upd H3 tp (.tup [.str "each", .str "rise", .str "look"])) := same_new _ htp
          refine ⟨tp, _, rfl, .inr (.inl (.inl upd_same)), rfl, rfl, _, rfl, ?_⟩
          have ein : inV (V.str z9) ([("each" : Str), "rise", "look"].map V.str) = overE z9 := by
            rw [inV_str]
            unfold overE
            by_cases q1 : z9 = "each"
            · rw [q1]; rfl
            by_cases q2 : z9 = "rise"
            · rw [q2]; rfl
            by_cases q3 : z9 = "look"
            · rw [q3]; rfl
            rw [decide_eq_false q1, decide_eq_false q2, decide_eq_false q3]
            simp [q1, q2, q3]
          show (if inV (V.str z9) ([("each" : Str), "rise", "look"].map V.str) = true then _ else _)
          rw [ein]
          cases eo : overE z9 with
          | false => 
            refine iteF ⟨_, rfl, s3.trans s36, ?_⟩
            rw [eS]
            unfold askE
            rw [ek9, eo]
            exact nin
          | true =>
            obtain ⟨bo, ebo⟩ := oe.o (by rw [ek9]; exact eo)
            have l9 : 2 < ds9.length + 1 := by
              rcases kinds_of epn with q | q | q | q | q | q | q | q
              · rw [q] at eo; exact absurd eo (by decide)
              · rw [q] at eo; exact absurd eo (by decide)
              · rw [q] at eo; exact absurd eo (by decide)
              · have := parts_of epn (m := 4) (by rw [q]; rfl); omega
              · have := parts_of epn (m := 5) (by rw [q]; rfl); omega
              · have := parts_of epn (m := 5) (by rw [q]; rfl); omega
              · rw [q] at eo; exact absurd eo (by decide)
              · rw [q] at eo; exact absurd eo (by decide)
            obtain ⟨x29, h29, t29⟩ := at9 2 l9
            rw [ebo] at t29
            obtain rfl : x29 = V.str bo := t29.strI
            have q6 := (s3.trans s36) _ _ (s52 _ _ (s5 _ _ hq))
            refine iteT ⟨_, rfl, t, _, 1, _, rfl, rfl, .inl (.inl (s36 _ _ ht2)), ix1, a9, _, 2, _, rfl, rfl, .inl (.inl (s36 _ _ hsa)), atI_nat h29, _, rfl, q, _, 0, _, rfl, rfl, .inl (.inl q6), ix0, rfl, _, rfl, ifd (fun eb => ?_) fun nb => ?_⟩
            · refine no (s2.trans (s3.trans s36)) ?_
              have m : s9 ∈ askL (es.take n) := (askL_mem s9 _ []).mpr (.inr ⟨e, List.mem_of_getElem? he2, by rw [ek9]; exact eo, by rw [ebo]; exact V.str.inj eb⟩)
              rw [decide_eq_true m]
              simp
            · refine ⟨_, rfl, s3.trans s36, ?_⟩
              rw [eS]
              unfold askE
              rw [ek9, eo, if_pos rfl, ebo]
              show s9 ∉ if bo ∈ askL ((es.take n).take i) then askL ((es.take n).take i) else askL ((es.take n).take i) ++ [bo]
              by_cases mb : bo ∈ askL ((es.take n).take i)
              · rw [if_pos mb]
                exact nin
              · rw [if_neg mb]
                intro m
                rcases List.mem_append.mp m with m | m
                · exact nin m
                · rw [List.mem_singleton] at m
                  exact nb (by rw [m])
        rintro σ H6 ⟨v7, rfl, s6, nin⟩
        rw [lz, List.take_take, Nat.min_self] at nin
        have s06 := s2.trans s6
        have hq6 := s6 _ _ (s52 _ _ (s5 _ _ hq))
        refine ⟨_, rfl, pa, _, 0, _, rfl, rfl, .inl (.inl (s06 _ _ hpa)), atI_nat h0p, ?_⟩
        refine ⟨_, rfl, _, rfl, _, rfl, q, _, 0, _, rfl, rfl, .inl (.inl hq6), ix0, ?_⟩
        refine ⟨.ref fa, n, s9, es, rfl, hf.same s06, ln, le, ok, fun tp5 H7 s7 htp5 => ⟨tp5, _, rfl, .inl (.inl (.inl htp5)), rfl, flat_nat _, _, rfl, ?_⟩⟩
        have s07 := s06.trans s7
        have hq7 := s7 _ _ hq6
        show (if inV (V.int ((p1.headD 0 : Nat) : Int)) (natL (topsL (es.take n) s9)) = true then _ else _)
        rw [inV_nat]
        rw [decide_eq_false nin, Bool.not_false, Bool.true_and] at no
        rw [decide_eq_false nin, Bool.not_false, Bool.and_true, Bool.true_and] at k
        refine ifd (fun y1 => no s07 (by rw [decide_eq_true y1]; rfl)) fun y1 => ?_
        rw [decide_eq_false y1, Bool.not_false, Bool.true_and] at k no
        have ha7 := s07 _ _ ha
        refine ⟨_, rfl, a, _, 3, _, rfl, rfl, .inl (.inl ha7), atI_nat h3, x3, d3, rfl, t3.same s07, fun H8 s8 => ⟨_, rfl, ?_⟩⟩
        have s08 := s07.trans s8
        cases er : isRowD d3 with
        | false =>
          have eB : B = false := by rw [← hB]; unfold rowD3; rw [er]; rfl
          exact iteT (iteT (no s08 (by rw [eB]; rfl)))
        | true =>
          obtain ⟨aa, ys, rfl, hx, hy⟩ := (t3.same s08).row er
          have ly := hy.len
          have ha8 := s08 _ _ ha
          refine iteF ⟨_, rfl, a, _, 3, _, rfl, rfl, .inl (.inl ha8), atI_nat h3, aa, ys, rfl, rw_sq hx, _, rfl, q, _, 2, _, rfl, rfl, .inl (.inl (s8 _ _ hq7)), ix2, gb, _, rfl, rw_sq (hgb.same ((s5.trans s52).trans ((s6.trans s7).trans s8))), rfl, _, rfl, ifn (fun ne => no s08 ?_) fun eq => ?_⟩
          · have eB : B = false := by
              rw [← hB]
              unfold rowD3
              rw [er, ← ly]
              have : ¬ ((((namesD g9).map V.str).length : Int) ≤ (ys.length : Int) ∧ (ys.length : Int) ≤ (((namesD g9).map V.str).length : Int)) := fun z => ne (by rw [show (ys.length : Int) = ((((namesD g9).map V.str).length : Nat) : Int) by omega])
              by_cases q1 : (((namesD g9).map V.str).length : Int) ≤ (ys.length : Int)
              · rw [decide_eq_true q1, decide_eq_false (fun q2 => this ⟨q1, q2⟩)]
                rfl
              · rw [decide_eq_false q1]
                rfl
            rw [eB]
            rfl
          · have eB : B = true := by
              have el : (ys.length : Int) = ((((namesD g9).map V.str).length : Nat) : Int) := V.int.inj eq
              rw [← hB]
              unfold rowD3
              rw [er, ← ly, decide_eq_true (show (((((namesD g9).map V.str).length : Nat)) : Int) ≤ (ys.length : Int) by omega), decide_eq_true (show (ys.length : Int) ≤ ((((namesD g9).map V.str).length : Nat) : Int) by omega)]
              rfl
            simp only [eB, Bool.true_and] at k no
            refine ⟨_, rfl, a, _, 3, _, rfl, rfl, .inl (.inl ha8), atI_nat h3, aa, ys, rfl, any_of (K := K) (rw_sq hx) (Same.refl _) fun J G gm wk => ?_⟩
            refine for_it wk (fun i σ H' => ∃ v7 v8 v9, σ = [some (.ref wp), some (.ref fa), some (.int (n : Nat)), some (.ref pa), some (.ref a), some av, some (.ref q), v7, v8, v9] ∧ Same H8 H' ∧ ((partsD d3).take i).all (prodsD (envOf ts (envB dB) ar)) = true) ⟨_, _, _, rfl, Same.refl _, rfl⟩ (fun i σ H' _ z => by obtain ⟨_, _, _, _, z, _⟩ := z; exact gm H' z) ?_ ?_
            · rintro i x σ H9 H10 hi ⟨v7, v8, v9, rfl, s89, inv⟩ ⟨rfl, hxi⟩
              obtain ⟨c, hc, tc⟩ := hy.at hxi
              have s09 := s08.trans s89
              have bad : ∀ {H'}, Same H H' → prodsD (envOf ts (envB dB) ar) c = false → Q (.bl false) H' := fun s e => no s (by
                rw [List.all_eq_false]
                exact ⟨c, List.mem_of_getElem? hc, by rw [e]; exact Bool.false_ne_true⟩)
              refine ⟨_, rfl, x, c, rfl, tc.same s89, fun H11 s11 => ⟨_, rfl, ?_⟩⟩
              have s0b := s09.trans s11
              cases ec : isRowD c with
              | false => exact iteT (iteT (bad s0b (by unfold prodsD rowD3; rw [ec]; rfl)))
              | true =>
                obtain ⟨ca, cx, rfl, hcx, tcx⟩ := ((tc.same s89).same s11).row ec
                have lcx := tcx.len
                refine iteF ⟨_, rfl, ca, cx, rfl, rw_sq hcx, _, _, rfl, rfl, _, rfl, ifd (fun l4 => bad s0b ?_) fun l4 => ?_⟩
                · unfold prodsD rowD3
                  rw [← lcx, decide_eq_false (show ¬ (cx.length : Int) ≤ 4 by omega)]
                  simp
                have eP : prodsD (envOf ts (envB dB) ar) c = (partsD c).all (prodD (envOf ts (envB dB) ar)) := by
                  unfold prodsD rowD3
                  rw [ec, ← lcx, decide_eq_true (show (0 : Int) ≤ (cx.length : Int) by omega), decide_eq_true (show (cx.length : Int) ≤ 4 by omega)]
                  rfl
                refine ⟨_, rfl, ca, cx, rfl, any_of (K := K) (rw_sq hcx) (Same.refl _) fun J2 G2 gm2 wk2 => ?_⟩
                refine for_it wk2 (fun j σ H' => ∃ v9, σ = [some (.ref wp), some (.ref fa), some (.int (n : Nat)), some (.ref pa), some (.ref a), some av, some (.ref q), v7, some (.ref ca), v9] ∧ Same H11 H' ∧ ((partsD c).take j).all (prodD (envOf ts (envB dB) ar)) = true) ⟨_, rfl, Same.refl _, rfl⟩ (fun j σ H' _ z => by obtain ⟨_, _, z, _⟩ := z; exact gm2 H' z) ?_ ?_
                · rintro j u σ H12 H13 hj ⟨v9, rfl, sbc, inv2⟩ ⟨rfl, huj⟩
                  obtain ⟨o, ho, to⟩ := tcx.at huj
                  have s0c := s0b.trans sbc
                  refine ⟨_, rfl, _, rfl, _, rfl, wp, av, u, ts, dB, o, ar, rfl, W.same s0c, tav.same s0c, ga, to.same sbc, fun H14 s14 => ⟨_, rfl, ?_⟩⟩
                  cases et : prodD (envOf ts (envB dB) ar) o with
                  | false =>
                    refine iteT (bad (s0c.trans s14) ?_)
                    rw [eP, List.all_eq_false]
                    exact ⟨o, List.mem_of_getElem? ho, by rw [et]; exact Bool.false_ne_true⟩
                  | true =>
                    refine iteF ⟨_, rfl, sbc.trans s14, ?_⟩
                    rw [List.take_add_one, ho, List.all_append, inv2]
                    show (true && ([o].all _)) = true
                    rw [List.all_cons, et]
                    rfl
                · rintro σ H12 ⟨v9, rfl, sbc, inv2⟩
                  rw [lcx, List.take_length] at inv2
                  refine ⟨_, _, _, rfl, (s89.trans s11).trans sbc, ?_⟩
                  rw [List.take_add_one, hc, List.all_append, inv]
                  show (true && ([c].all _)) = true
                  rw [List.all_cons, eP, inv2]
                  rfl
            · rintro σ H9 ⟨v7, v8, v9, rfl, s89, inv⟩
              rw [ly, List.take_length] at inv
              rw [inv] at k
              exact k _ (s08.trans s89)
end
end Fm

/-! ## K08LO -/
set_option Elab.async false
set_option maxRecDepth 100000
set_option maxHeartbeats 8000000
namespace Fm
open PySem L2
def okE {α β : Type} : Except α β → Bool
  | .ok _ => true
  | .error _ => false
theorem putFit_eq {bs : Env} {st : RS} {t : Str → List Nat} {a : List Str} {top : Nat} {e : Env} {d : PyData} (h1 : ∀ b, st.tops b = t b) (h2 : st.asked = a) : putFit bs (moreS st) top e d = putFit bs ⟨0, t, a⟩ top e d := by
  obtain rfl : t = st.tops := funext fun b => (h1 b).symm
  subst h2
  rfl
theorem loop_eq {ts : List Tab} {bs : Env} {st : RS} {t : Str → List Nat} {top : Nat} {e : Env} {d : PyData} (h1 : ∀ b, st.tops b = t b) : (freeD e (pt d 1) && (if overE (kindD d) = true then entFit bs (moreS st) top e d else rowsFit ts e d)) = loopD ts bs t top e d := by
  obtain rfl : t = st.tops := funext fun b => (h1 b).symm
  rfl
theorem okE_step {ts : List Tab} {bs : Env} {st : RS} {e : Ent} : okE (stepE ts bs st e) = (!decide (40 < st.many + 1) && (!decide (9 ≤ e.1.length) && fitsD ts bs (moreS st) (e.1.headD 0) (envOf ts bs e.2.2) e.2.1)) := by
  unfold stepE
  by_cases h1 : 40 < st.many + 1
  · rw [if_pos (.inl h1), decide_eq_true h1]
    rfl
  by_cases h2 : 9 ≤ e.1.length
  · rw [if_pos (.inr (.inl h2)), decide_eq_true h2, decide_eq_false h1]
    rfl
  rw [decide_eq_false h1, decide_eq_false h2]
  cases q : fitsD ts bs (moreS st) (e.1.headD 0) (envOf ts bs e.2.2) e.2.1 with
  | false => rw [if_pos (.inr (.inr rfl))]; rfl
  | true => rw [if_neg (fun z => z.elim h1 fun z => z.elim h2 fun z => by cases z)]; rfl
theorem slA_tree {K : PySem.W.Frag} {F H : Hp} {Q : VK} {v : V} {ds : List PyData} {lo hi : Option Int} (s : Same F H) (hv : Tp F v (.tuple ds)) (k : ∀ u F' H', Grow F H F' H' → Tp F' u (.tuple ((ds.drop (HT.sIx ds.length 0 lo)).take (HT.sIx ds.length ds.length hi - HT.sIx ds.length 0 lo))) → Q u H') : rSlA K v lo hi H Q := by
  obtain ⟨a, xs, rfl, hx, ha⟩ := hv.tuple
  refine ⟨a, xs, rfl, sq_tup (s _ _ hx), fun e => k _ _ _ (Grow.refl s) ?_, fun _ p hp => k _ _ _ (Grow.new s _ hp) (.tup upd_same ?_)⟩
  · rw [ha.len] at e
    rw [e.1, e.2, List.drop_zero, Nat.sub_zero, List.take_length]
    exact hv
  · unfold cutV
    rw [ha.len]
    exact ((ha.drop _).take _).same (same_new _ (s.free hp))
section
variable {P : Program} {w : World} {K : PySem.W.Frag} {mg : Str → Option Value} {base : Heap} {CS CG CRd PD CN CBP CBB CBS : Addr}
def spStmtL : Sp := fun vs H Q _ => ∃ (wp : Addr) (fv : V) (n : Nat) (es : List Ent) (e : Ent) (ts : List Tab) (dB : PyData) (st : RS), vs = [.ref wp, fv, .int (n : Nat)] ∧ WpAt H wp ts dB ∧ Tp H fv (.list (es.map entD)) ∧ es[n]? = some e ∧ es.length ≤ 42 ∧ StOf st (es.take n) ∧ EntGood ts dB e ∧ mst e.2.1 ≤ 100000 ∧
  ∀ H', Same H H' → Q (.bl (okE (stepE ts (envB dB) st e))) H'
abbrev s_l_right_statement : Stmt := topS 73
abbrev sc_l_right_statementN : List Str := ["_law_world", "_law_flat_here", "_law_k", "_law_path", "_law_statement", "_law_around"]
abbrev ps_l_right_statement : List Str := ["_law_world", "_law_flat_here", "_law_k"]
theorem sc_l_right_statement : FnScope sc_l_right_statementN ps_l_right_statement (defScope s_l_right_statement) := ⟨rfl, rfl, rfl, by decide +kernel, rfl, by decide +kernel, by decide +kernel⟩
theorem ok_l_right_statement {f : Addr} {fd : FuncData} (F : Fun K "_law_right_statement" "_law_right_statement" s_l_right_statement f fd) (T : Txt K mg CS) (D_l_form : Df P w K mg base "_law_form" 2 ps_l_form spForm) (D_l_right_terms : Df P w K mg base "_law_right_terms" 5 ps_l_right_terms spTermsL) (D_l_right_put : Df P w K mg base "_law_right_put" 6 ps_l_right_put spPutL) (D_l_right_loop : Df P w K mg base "_law_right_loop" 6 ps_l_right_loop spLoop) : FnOk P w K mg base CX0 7 f fd ps_l_right_statement spStmtL := by
  refine F.ok sc_l_right_statement (fun vs H Q E h => ?_) (fun cdv A outer s H vs Q E hr h => ?_)
  · obtain ⟨_, _, _, _, _, _, _, _, rfl, _⟩ := h
    rfl
  · obtain ⟨wp, fv, n, es, e, ts, dB, st, rfl, W, hf, he, le, I, G, hm, k⟩ := h
    refine ⟨_, (pss_cons (ps_asg (pe_ix ix_list (pv 1) (pv 2) (fun _ _ => rfl)) (pg_tup (by rfl) (pgs_cons (pg_name (i := 3) sc_l_right_statement.nd rfl (Or.inl rfl)) (pgs_cons (pg_name (i := 4) sc_l_right_statement.nd rfl (Or.inl rfl)) (pgs_cons (pg_name (i := 5) sc_l_right_statement.nd rfl (Or.inl rfl)) pgs_nil)))))
  (pss_cons (ps_if (PW.pt (pw_or (pt_cmpR op_gt (pe_callB call_len_seq (by rfl) T.n_len (by decide +kernel) (pa_cons (pv 3) pa_nil)) pe_int (nomark _)) (pw_or (pt_cmpR op_ge (pv 2) pe_int (nomark _)) (pw_or1 (pt_not (pt_val (pe_d D_l_form (hr.mono (by decide)) (pa_cons (pv 4) pa_nil))))))))
    (pss_one (ps_ret pe_bl))
    pss_nil)
  (pss_cons (ps_if (pt_cmpR op_eq (pe_ix ix_tup (pv 4) pe_int (fun _ _ => rfl)) pe_str (nomark _))
    (pss_one (ps_ret (pe_d D_l_right_put (hr.mono (by decide)) (pa_cons (pv 0) (pa_cons (pv 1) (pa_cons (pv 2) pa_nil))))))
    pss_nil)
  (pss_cons (ps_if (pt_cmpR op_eq (pe_ix ix_tup (pv 4) pe_int (fun _ _ => rfl)) pe_str (nomark _))
    (pss_one (ps_ret (pe_d D_l_right_terms (hr.mono (by decide)) (pa_cons (pv 0) (pa_cons (pv 5) (pa_cons (pe_slice sl_tupA (pv 4) (po_some pe_int) (po_some pe_int)) (pa_cons pe_int pa_nil)))))))
    pss_nil)
  (pss_one (ps_ret (pe_d D_l_right_loop (hr.mono (by decide)) (pa_cons (pv 0) (pa_cons (pv 1) (pa_cons (pv 2) pa_nil)))))))))), ?_⟩
    obtain ⟨ga, np, lar⟩ := G
    obtain ⟨fa, fxs, rfl, hfa, tfa⟩ := hf.list
    have heD : (es.map entD)[n]? = some (entD e) := by rw [List.getElem?_map, he]; rfl
    obtain ⟨ve, hve, tve⟩ := tfa.to heD
    obtain ⟨t, pa, sv, av, pxs, rfl, ht, hpa, h0p, tpa, tsv, tav⟩ := ent_at tve np
    rw [okE_step] at k
    have nn : n < es.length := (List.getElem?_eq_some_iff.mp he).1
    have im : st.many = n := by rw [I.m, List.length_take]; omega
    refine ⟨_, rfl, _, rfl, fa, fxs, n, _, rfl, rfl, .inl (.inl hfa), atI_nat hve, t, _, rfl, .inl (.inl ht), rfl, _, _, rfl, _, _, rfl, _, _, rfl, rfl, ?_⟩
    obtain ⟨p1, d, ar⟩ := e
    have np : p1 ≠ [] := np
    have tsv : Tp H sv d := tsv
    have tav : Tp H av (.list ar) := tav
    have ga : ∀ s ∈ ar, GoodB ts dB s := ga
    have lar : ar.length < p1.length := lar
    have hm : mst d ≤ 100000 := hm
    have k : ∀ H', Same H H' → Q (.bl (!decide (40 < st.many + 1) && (!decide (9 ≤ p1.length) && fitsD ts (envB dB) (moreS st) (p1.headD 0) (envOf ts (envB dB) ar) d))) H' := k
    have no : ∀ {H'}, Same H H' → (!decide (40 < st.many + 1) && (!decide (9 ≤ p1.length) && fitsD ts (envB dB) (moreS st) (p1.headD 0) (envOf ts (envB dB) ar) d)) = false → Q (.bl false) H' := fun s e => by
      have q := k _ s
      rw [e] at q
      exact q
    obtain ⟨ppa, pxs2, epp, hpp, tpp⟩ := (show Tp H (.ref pa) (.tuple (p1.map fun i => PyData.int (i : Nat))) from tpa).tuple
    obtain rfl : pa = ppa := V.ref.inj epp
    have lpp := tpp.len
    rw [List.length_map] at lpp
    refine ⟨_, rfl, pa, pxs2, rfl, .inr (.inl (.inl hpp)), _, _, rfl, rfl, _, rfl, ifd (fun l8 => no (Same.refl _) ?_) fun n8 => ?_⟩
    · rw [decide_eq_true (show 9 ≤ p1.length by omega)]
      simp
    rw [decide_eq_false (show ¬ 9 ≤ p1.length by omega)] at k no
    refine ⟨_, rfl, _, _, rfl, rfl, _, rfl, ifd (fun big => no (Same.refl _) ?_) fun nbig => ?_⟩
    · rw [decide_eq_true (show 40 < st.many + 1 by omega)]
      rfl
    rw [decide_eq_false (show ¬ 40 < st.many + 1 by omega)] at k no
    simp only [Bool.not_false, Bool.true_and] at k no
    refine ⟨_, rfl, sv, d, rfl, tsv, hm, fun H1 s1 => ⟨_, rfl, ?_⟩⟩
    have okU : ∀ u ∈ es.take n, EntOk u := I.o
    cases ef : formD d with
    | false =>
      refine iteT (no s1 ?_)
      unfold formD at ef
      unfold fitsD
      cases hp : hasPD d with
      | false => rfl
      | true =>
        rw [hp, Bool.true_and, Bool.or_eq_false_iff] at ef
        rw [if_neg (of_decide_eq_false ef.1), ef.2]
        rfl
    | true =>
      have ef2 := ef
      unfold formD at ef2
      rw [Bool.and_eq_true] at ef2
      obtain ⟨epd, erow⟩ := ef2
      obtain ⟨a, xs, z, ds, rfl, ha, ed, en, ek, at_, h0, ta⟩ := st_at tsv epd
      unfold fitsD at k
      rw [epd, Bool.true_and] at k
      refine iteF ⟨_, rfl, a, _, 0, _, rfl, rfl, .inl (.inl (s1 _ _ ha)), atI_nat h0, rfl, _, rfl, ifd (fun ep => ?_) fun np9 => ?_⟩
      · have ezp : z = "put" := V.str.inj ep
        rw [ek, if_pos ezp, putFit_eq I.t I.a] at k
        exact ⟨_, rfl, _, rfl, _, rfl, wp, .ref fa, n, es, (p1, d, ar), ts, dB, rfl, W.same s1, hf.same s1, he, le, okU, epd, by show kindD d = "put"; rw [ek, ezp], np, ga, by show ar.length ≤ 9; omega, hm, fun H2 s2 => k _ (s1.trans s2)⟩
      · have nz : ¬ z = "put" := fun q => np9 (by rw [q])
        rw [ek, if_neg nz] at k
        rw [ek, decide_eq_false nz, Bool.false_or] at erow
        rw [erow, Bool.true_and] at k
        refine ⟨_, rfl, a, _, 0, _, rfl, rfl, .inl (.inl (s1 _ _ ha)), atI_nat h0, rfl, _, rfl, ifd (fun es' => ?_) fun ns => ?_⟩
        · have ezs : z = "same" := V.str.inj es'
          rw [if_pos ezs] at k
          have l4 := parts_of en (m := 4) (by rw [ezs]; rfl)
          obtain ⟨d1, d2, d3, rfl⟩ : ∃ d1 d2 d3, ds = [d1, d2, d3] := by
            match ds, l4 with
            | [a, b, c], _ => exact ⟨a, b, c, rfl⟩
          rw [ed] at tsv
          refine ⟨_, rfl, _, rfl, _, rfl, _, rfl, _, rfl, slA_tree (Same.refl _) (tsv.same s1) fun u F2 H2 gr tu => ?_⟩
          have s12 := s1.trans (gr.same (Same.refl _))
          have tu : Tp F2 u (.tuple [d1, d2]) := tu
          refine ⟨wp, av, u, 2, ts, dB, .tuple [d1, d2], ar, rfl, W.same s12, tav.same s12, ga, tu.same gr.fh, fun H3 s3 => ?_⟩
          have e9 : termsD (envOf ts (envB dB) ar) 2 (.tuple [d1, d2]) = (termD (envOf ts (envB dB) ar) (pt d 1) && termD (envOf ts (envB dB) ar) (pt d 2)) := by
            rw [ed]
            show (rowD3 2 2 (.tuple [d1, d2]) && ([d1, d2].all (termD (envOf ts (envB dB) ar)))) = _
            rw [List.all_cons, List.all_cons, List.all_nil, Bool.and_true]
            rfl
          rw [e9]
          exact k _ (s12.trans s3)
        · have nsz : ¬ z = "same" := fun q => ns (by rw [q])
          rw [if_neg nsz] at k
          have kk : ∀ H', Same H H' → Q (.bl (loopD ts (envB dB) (topsL (es.take n)) (p1.headD 0) (envOf ts (envB dB) ar) d)) H' := fun H' s' => by
            rw [← loop_eq (st := st) I.t, ek]
            exact k H' s'
          exact ⟨_, rfl, _, rfl, _, rfl, wp, .ref fa, n, es, (p1, d, ar), ts, dB, rfl, W.same s1, hf.same s1, he, le, okU, epd, (by show kindD d ≠ "put"; rw [ek]; exact nz), (by show kindD d ≠ "same"; rw [ek]; exact nsz), np, ga, by show ar.length ≤ 9; omega, hm, fun H2 s2 => kk _ (s1.trans s2)⟩
end
end Fm

/-! ## K08LP -/
set_option Elab.async false
set_option maxRecDepth 100000
set_option maxHeartbeats 8000000
namespace Fm
open PySem L2
theorem flatL_mem {f : List Nat → PyData → List Ent} {path : List Nat} {e : Ent} : ∀ {ds : List PyData} {i : Nat}, e ∈ flatL f path i ds → ∃ j, ∃ c ∈ ds, e ∈ f (path ++ [j]) c
  | [], _, h => by cases h
  | d :: ds, i, h => by
    rcases List.mem_append.mp h with h | h
    · exact ⟨i, d, List.mem_cons_self, h⟩
    · obtain ⟨j, c, m, q⟩ := flatL_mem h
      exact ⟨j, c, List.mem_cons_of_mem _ m, q⟩
theorem body_mst {d c : PyData} (h : c ∈ bodyD d) : mst c ≤ mst d := by
  unfold bodyD at h
  rw [lastD_pt] at h
  have er : isRowD d = true := by
    cases d with
    | tuple _ => rfl
    | list _ => rfl
    | _ => exact absurd h (by show ¬ c ∈ ([] : List PyData); intro y; cases y)
  have b := (pt_bd (d := d) (i := (partsD d).length - 1) er).1
  have er2 : isRowD (pt d ((partsD d).length - 1)) = true := by
    cases q : pt d ((partsD d).length - 1) with
    | tuple _ => rfl
    | list _ => rfl
    | _ => rw [q] at h; exact absurd h (by intro y; cases y)
  rw [mst_row er2] at b
  exact Nat.le_trans (mst_mem h) b
theorem flat_mst : ∀ (n : Nat) (p : List Nat) (ar : List PyData) (d : PyData) (e : Ent), e ∈ flatS n p ar d → mst e.2.1 ≤ mst d
  | 0, p, ar, d, e, h => by
    rw [List.mem_singleton.mp (show e ∈ [(p, d, ar)] from h)]
    exact Nat.le_refl _
  | n + 1, p, ar, d, e, h => by
    rcases List.mem_cons.mp (show e ∈ (p, d, ar) :: (if goesIn d = true then flatL (fun p' d' => flatS n p' (innerL ar d) d') p 0 (bodyD d) else []) from h) with h | h
    · rw [h]
      exact Nat.le_refl _
    · split at h
      · obtain ⟨j, c, m, q⟩ := flatL_mem h
        exact Nat.le_trans (flat_mst n _ _ c e q) (body_mst m)
      · cases h
theorem reach_take {ts : List Tab} {bs : Env} {P : Ent → Prop} : ∀ (k : Nat) {es : List Ent} {st : RS}, Reach ts bs P st es → Reach ts bs P st (es.take k)
  | 0, _, _, _ => trivial
  | k + 1, [], _, _ => trivial
  | k + 1, e :: es, st, h => ⟨h.1, fun st' q => reach_take k (h.2 st' q)⟩
theorem foldE_snoc {ts : List Tab} {bs : Env} {es : List Ent} {e : Ent} {st st' : RS} (h : foldE ts bs st es = .ok st') : foldE ts bs st (es ++ [e]) = stepE ts bs st' e := by
  rw [foldE_app, h]
  show thenE (stepE ts bs st' e) (fun x => .ok x) = _
  cases stepE ts bs st' e <;> rfl
theorem foldE_bad {ts : List Tab} {bs : Env} : ∀ {es : List Ent} {k : Nat} {st st' : RS} {e : Ent} {p : List Nat}, foldE ts bs st (es.take k) = .ok st' → es[k]? = some e → stepE ts bs st' e = .error p → foldE ts bs st es = .error p
  | [], k, st, st', e, p, _, h, _ => by cases h
  | x :: es, 0, st, st', e, p, h1, h2, h3 => by
    have h2 : some x = some e := h2
    obtain rfl := Option.some.inj h2
    have h1 : st = st' := Except.ok.inj h1
    subst h1
    show thenE (stepE ts bs st x) _ = _
    rw [h3]
    rfl
  | x :: es, k + 1, st, st', e, p, h1, h2, h3 => by
    rw [List.take_succ_cons] at h1
    have h1 : thenE (stepE ts bs st x) (fun s => foldE ts bs s (es.take k)) = .ok st' := h1
    show thenE (stepE ts bs st x) (fun s => foldE ts bs s es) = _
    cases q : stepE ts bs st x with
    | error _ => rw [q] at h1; cases h1
    | ok s2 =>
      rw [q] at h1
      exact foldE_bad (es := es) (k := k) h1 h2 h3
theorem step_err {ts : List Tab} {bs : Env} {st : RS} {e : Ent} (h : okE (stepE ts bs st e) = false) : stepE ts bs st e = .error e.1 := by
  unfold stepE at h ⊢
  split
  · rfl
  · rename_i q
    rw [if_neg q] at h
    cases h
theorem step_ok {ts : List Tab} {bs : Env} {st : RS} {e : Ent} (h : okE (stepE ts bs st e) = true) : ∃ st', stepE ts bs st e = .ok st' := by
  cases q : stepE ts bs st e with
  | ok s => exact ⟨s, rfl⟩
  | error _ => rw [q] at h; cases h
theorem reach_at {ts : List Tab} {bs : Env} {P : Ent → Prop} : ∀ {es : List Ent} {k : Nat} {st st' : RS} {e : Ent}, Reach ts bs P st es → foldE ts bs st (es.take k) = .ok st' → es[k]? = some e → P e
  | [], k, st, st', e, _, _, h => by cases h
  | x :: es, 0, st, st', e, R, _, h => by
    have h : some x = some e := h
    obtain rfl := Option.some.inj h
    exact R.1
  | x :: es, k + 1, st, st', e, R, h1, h2 => by
    rw [List.take_succ_cons] at h1
    have h1 : thenE (stepE ts bs st x) (fun s => foldE ts bs s (es.take k)) = .ok st' := h1
    cases q : stepE ts bs st x with
    | error _ => rw [q] at h1; cases h1
    | ok s2 =>
      rw [q] at h1
      exact reach_at (R.2 s2 q) h1 h2
def bodyFl (d : PyData) : List Ent := capped [] (flatL (fun q d => flatS 8 q [] d) [] 0 (partsD d))
theorem bodyFl_len (d : PyData) : (bodyFl d).length ≤ 42 := capped_len (Nat.zero_le _)
theorem bodyFl_mst {d : PyData} (er : isRowD d = true) : ∀ e ∈ bodyFl d, mst e.2.1 ≤ mst d := fun e h => by
  have h : e ∈ [] ++ (flatL (fun q d => flatS 8 q [] d) [] 0 (partsD d)).take (42 - 0) := h
  rw [List.nil_append] at h
  obtain ⟨j, c, m, q⟩ := flatL_mem (List.mem_of_mem_take h)
  rw [mst_row er]
  exact Nat.le_trans (flat_mst _ _ _ _ _ q) (mst_mem m)
theorem bodyFl_good {ts : List Tab} {dB d : PyData} (hB : blocksBad ts dB = none) : Reach ts (envB dB) (EntGood ts dB) rs0 (bodyFl d) := by
  show Reach ts (envB dB) (EntGood ts dB) rs0 ([] ++ (flatL (fun q d => flatS 8 q [] d) [] 0 (partsD d)).take (42 - 0))
  rw [List.nil_append]
  exact reach_take _ (reachL (fun i st c => good_flat hB 8 ([] ++ [i]) [] c st (fun s m => by cases m) (by simp)) _ 0 rs0)
def wrongV (H : Hp) (v : V) (r : Except (List Nat) RS) : Prop := match r with
  | .ok _ => v = .non
  | .error p => Tp H v (natsD p)
section
variable {P : Program} {w : World} {K : PySem.W.Frag} {mg : Str → Option Value} {base : Heap} {CS CG CRd PD CN CBP CBB CBS : Addr}
def spWrongP : Sp := fun vs H Q _ => ∃ (tv bv yv : V) (ts : List Tab) (dB dY : PyData), vs = [tv, bv, yv] ∧ WrAt H tv bv ts dB ∧ Tp H yv dY ∧ mst dY ≤ 100000 ∧ ∀ H' v, Same H H' → wrongV H' v (bodyRead ts (envB dB) dY) → Q v H'
abbrev s_l_wrong_path : Stmt := topS 74
abbrev sc_l_wrong_pathN : List Str := ["_law_tables_here", "_law_blocks_here", "_law_body", "_law_flat_here", "_law_k"]
abbrev ps_l_wrong_path : List Str := ["_law_tables_here", "_law_blocks_here", "_law_body"]
theorem sc_l_wrong_path : FnScope sc_l_wrong_pathN ps_l_wrong_path (defScope s_l_wrong_path) := ⟨rfl, rfl, rfl, by decide +kernel, rfl, by decide +kernel, by decide +kernel⟩
theorem ok_l_wrong_path {f : Addr} {fd : FuncData} (F : Fun K "_law_wrong_path" "_law_wrong_path" s_l_wrong_path f fd) (T : Txt K mg CS) (D_l_row : Df P w K mg base "_law_row" 1 ps_l_row spRowL) (D_l_flat : Df P w K mg base "_law_flat" 12 ps_l_flat (spFlat 9)) (D_l_right_statement : Df P w K mg base "_law_right_statement" 7 ps_l_right_statement spStmtL) : FnOk P w K mg base CX0 13 f fd ps_l_wrong_path spWrongP := by
  refine F.ok sc_l_wrong_path (fun vs H Q E h => ?_) (fun cdv A outer s H vs Q E hr h => ?_)
  · obtain ⟨_, _, _, _, _, _, rfl, _⟩ := h
    rfl
  · obtain ⟨tv, bv, yv, ts, dB, dY, rfl, W, hy, hm, k⟩ := h
    refine ⟨_, (pss_cons (ps_if (PW.pt (pw_or (pt_not (pt_val (pe_d D_l_row (hr.mono (by decide)) (pa_cons (pv 2) pa_nil)))) (pw_or (pt_cmpR op_lt (pe_callB call_len_seq (by rfl) T.n_len (by decide +kernel) (pa_cons (pv 2) pa_nil)) pe_int (nomark _)) (pw_or1 (pt_cmpR op_gt (pe_callB call_len_seq (by rfl) T.n_len (by decide +kernel) (pa_cons (pv 2) pa_nil)) pe_int (nomark _))))))
    (pss_one (ps_ret (pe_tup pa_nil)))
    pss_nil)
  (pss_cons (ps_set (i := 3) sc_l_wrong_path.nd rfl (Or.inl rfl) (pe_lst pa_nil))
  (pss_cons (ps_for PassesOwn.never rfl (pi_range1 (by rfl) T.n_range (pa_cons (pe_callB call_len_seq (by rfl) T.n_len (by decide +kernel) (pa_cons (pv 2) pa_nil)) pa_nil)) (pg_name (i := 4) sc_l_wrong_path.nd rfl (Or.inl rfl))
    (pss_one (ps_expr (pe_d D_l_flat (hr.mono (by decide)) (pa_cons (pe_ix (ixK_seq (K := K)) (pv 2) (pv 4) (fun _ _ => rfl)) (pa_cons (pe_tup (pa_cons (pv 4) pa_nil)) (pa_cons (pe_lst pa_nil) (pa_cons (pv 3) pa_nil))))))))
  (pss_cons (ps_for PassesOwn.never rfl (pi_range1 (by rfl) T.n_range (pa_cons (pe_callB call_len_seq (by rfl) T.n_len (by decide +kernel) (pa_cons (pv 3) pa_nil)) pa_nil)) (pg_name (i := 4) sc_l_wrong_path.nd rfl (Or.inl rfl))
    (pss_one (ps_if (pt_not (pt_val (pe_d D_l_right_statement (hr.mono (by decide)) (pa_cons (pe_tup (pa_cons (pv 0) (pa_cons (pv 1) pa_nil))) (pa_cons (pv 3) (pa_cons (pv 4) pa_nil))))))
      (pss_one (ps_ret (pe_ix (ixK_seq (K := K)) (pe_ix ix_list (pv 3) (pv 4) (fun _ _ => rfl)) pe_int (fun _ _ => rfl))))
      pss_nil)))
  (pss_one (ps_ret pe_non)))))), ?_⟩
    have badT : ∀ {H' : Hp}, Same H H' → rowD3 1 12 dY = false → ∀ t, H' t = none → Q (.ref t) (upd H' t (.tup [])) := fun s e t ht => k _ _ (s.trans (same_new _ ht)) (by
      unfold bodyRead
      rw [e]
      exact (.tup upd_same .nil : Tp _ _ (.tuple [])))
    refine ⟨_, rfl, yv, dY, rfl, hy, fun H1 s1 => ⟨_, rfl, ?_⟩⟩
    cases er : isRowD dY with
    | false => exact iteT (iteT ⟨(by show 0 ≤ sizeLine; decide), fun t ht => badT s1 (by unfold rowD3; rw [er]; rfl) t ht⟩)
    | true =>
      obtain ⟨b, bxs, rfl, hb, tb⟩ := (hy.same s1).row er
      have lb := tb.len
      refine iteF ⟨_, rfl, b, bxs, rfl, rw_sq hb, _, _, rfl, rfl, _, rfl, ifd (fun l1 => iteT ⟨(by show 0 ≤ sizeLine; decide), fun t ht => badT s1 ?_ t ht⟩) fun l1 => ?_⟩
      · unfold rowD3
        rw [er, ← lb, decide_eq_false (show ¬ (1 : Int) ≤ (bxs.length : Int) by omega)]
        rfl
      refine ⟨_, rfl, b, bxs, rfl, rw_sq hb, _, _, rfl, rfl, _, rfl, ifd (fun l12 => ⟨(by show 0 ≤ sizeLine; decide), fun t ht => badT s1 ?_ t ht⟩) fun l12 => ?_⟩
      · unfold rowD3
        rw [er, ← lb, decide_eq_false (show ¬ (bxs.length : Int) ≤ 12 by omega)]
        simp
      have eR : rowD3 1 12 dY = true := by
        unfold rowD3
        rw [er, ← lb, decide_eq_true (show (1 : Int) ≤ (bxs.length : Int) by omega), decide_eq_true (show (bxs.length : Int) ≤ 12 by omega)]
        rfl
      rw [body_flat ts (envB dB) dY eR] at k
      have k : ∀ H' v, Same H H' → wrongV H' v (foldE ts (envB dB) rs0 (bodyFl dY)) → Q v H' := k
      refine ⟨(by show 0 ≤ sizeLine; decide), fun D hD => ?_⟩
      have s2 : Same H1 (upd H1 D (.lst [])) := same_new _ hD
      have hD2 : (upd H1 D (.lst [])) D = some (.lst []) := upd_same
      generalize upd H1 D (.lst []) = H2 at *
      have hb2 := hb.same s2
      refine ⟨_, rfl, b, bxs, rfl, rw_sq hb2, _, rfl, by omega, by omega, ?_⟩
      refine for_range (lo := 0) (n := bxs.length) (fun i σ H' => ∃ F3 zs v4, σ = [some tv, some bv, some (.ref b), some (.ref D), v4] ∧ GrowX D H1 H2 F3 H' ∧ H' D = some (.lst zs) ∧ TpAll F3 zs ((capped [] (flatL (fun q d => flatS 8 q [] d) [] 0 ((partsD dY).take i))).map entD))
        ⟨H1, [], _, rfl, .same s2 hD (Same.refl _), hD2, by rw [List.take_zero]; show TpAll H1 [] ((capped [] []).map entD); rw [capped_nil]; exact .nil⟩ ?_ ?_
      · rintro i σ H3 hi ⟨F3, zs, v4, rfl, gx, hD3, tz⟩
        have hb1 : bxs[i]? = some bxs[i] := List.getElem?_eq_getElem hi
        obtain ⟨c, hc, tc⟩ := tb.at hb1
        have mc := mst_mem (List.mem_of_getElem? hc)
        rw [← mst_row er] at mc
        have hb3 := hb.same (gx.ff.trans gx.fh)
        refine ⟨_, rfl, _, rfl, ix_sq (rw_sq hb3) (by rw [Int.zero_add]; exact atI_nat hb1) ?_⟩
        refine ⟨_, rfl, (by show 1 ≤ sizeLine; decide), fun t9 ht9 => ?_⟩
        rw [show (0 : Int) + ((i : Nat) : Int) = (i : Nat) from Int.zero_add _]
        have G1 : Grow F3 H3 (upd F3 t9 (.tup [.int (i : Nat)])) (upd H3 t9 (.tup [.int (i : Nat)])) := Grow.new gx.fh _ ht9
        refine ⟨(by show 0 ≤ sizeLine; decide), fun l9 hl9 => ?_⟩
        have G2 := Grow.new G1.fh (.lst []) hl9
        have G := G1.trans G2
        obtain ⟨fD9, hD9⟩ := G.hh _ _ gx.no hD3
        have ne9 : t9 ≠ l9 := fun z => by rw [← z, upd_same] at hl9; cases hl9
        have tp9 : Tp (upd (upd F3 t9 (.tup [.int (i : Nat)])) l9 (.lst [])) (.ref t9) (natsD [i]) := .tup (by rw [upd_ne ne9, upd_same]) (.cons (.int _) .nil)
        have tl9 : Tp (upd (upd F3 t9 (.tup [.int (i : Nat)])) l9 (.lst [])) (.ref l9) (.list []) := .lst upd_same .nil
        generalize upd (upd F3 t9 (.tup [.int (i : Nat)])) l9 (.lst []) = F7 at *
        generalize upd (upd H3 t9 (.tup [.int (i : Nat)])) l9 (.lst []) = H7 at *
        refine ⟨_, rfl, F7, bxs[i], .ref l9, t9, D, c, [i], [], _, zs, rfl, G.fh, tc.same (gx.ff.trans G.ff), tp9, tl9, fD9, hD9, tz.same G.ff, capped_len (Nat.zero_le _), by omega, rfl, (by show 0 < 1; omega), by omega, fun F' H' ys' g hD' t' => ?_⟩
        refine ⟨F', ys', _, rfl, (gx.trans (.of G fD9)).trans g, hD', ?_⟩
        rw [capped_app] at t'
        rw [List.take_add_one, hc]
        show TpAll F' ys' ((capped [] (flatL _ [] 0 ((partsD dY).take i ++ [c]))).map entD)
        rw [flatL_snoc, Nat.zero_add, List.length_take, Nat.min_eq_left (by omega)]
        exact t'
      rintro σ H3 ⟨F3, zs, v4, rfl, gx, hD3, tz⟩
      rw [lb, List.take_length] at tz
      have tz : TpAll F3 zs ((bodyFl dY).map entD) := tz
      have lz := tz.len
      rw [List.length_map] at lz
      have l42 := bodyFl_len dY
      have s23 : Same H1 H3 := gx.ff.trans gx.fh
      have s03 := s1.trans s23
      have hfl : Tp H3 (.ref D) (.list ((bodyFl dY).map entD)) := .lst hD3 (tz.same gx.fh)
      refine ⟨_, rfl, D, zs, rfl, rw_sq (.inl hD3), _, rfl, by omega, by omega, ?_⟩
      refine for_range (lo := 0) (n := zs.length) (fun i σ H' => ∃ v4 st, σ = [some tv, some bv, some (.ref b), some (.ref D), v4] ∧ Same H3 H' ∧ foldE ts (envB dB) rs0 ((bodyFl dY).take i) = .ok st ∧ StOf st ((bodyFl dY).take i)) ⟨_, rs0, rfl, Same.refl _, rfl, stOf_0⟩ ?_ ?_
      · rintro i σ H4 hi ⟨v4, st, rfl, s4, ef, I⟩
        have hi2 : (bodyFl dY)[i]? = some (bodyFl dY)[i] := List.getElem?_eq_getElem (by omega)
        generalize (bodyFl dY)[i] = e at hi2
        have gd := reach_at (bodyFl_good (d := dY) W.bo) ef hi2
        rw [show (0 : Int) + ((i : Nat) : Int) = (i : Nat) from Int.zero_add _]
        refine ⟨_, rfl, _, rfl, (by show 2 ≤ sizeLine; decide), fun wp hwp => ?_⟩
        have s45 : Same H4 (upd H4 wp (.tup [tv, bv])) := same_new _ hwp
        have s05 := (s03.trans s4).trans s45
        have mE := bodyFl_mst er e (List.mem_of_getElem? hi2)
        refine ⟨_, rfl, _, rfl, wp, .ref D, i, bodyFl dY, e, ts, dB, st, rfl, ⟨tv, bv, upd_same, W.same s05⟩, hfl.same (s4.trans s45), hi2, l42, I, gd, by omega, fun H6 s6 => ⟨_, rfl, ?_⟩⟩
        have s06 := s05.trans s6
        have eT : (bodyFl dY).take (i + 1) = (bodyFl dY).take i ++ [e] := by rw [List.take_add_one, hi2]; rfl
        cases eo : okE (stepE ts (envB dB) st e) with
        | true =>
          obtain ⟨st', es'⟩ := step_ok eo
          refine iteF ⟨_, st', rfl, (s4.trans s45).trans s6, ?_, ?_⟩
          · rw [eT, foldE_snoc ef]
            exact es'
          · rw [eT]
            exact stOf_step I gd.2.1 es'
        | false =>
          have eF := foldE_bad ef hi2 (step_err eo)
          rw [eF] at k
          obtain ⟨ve, hve, tve⟩ := (tz.same gx.fh).to (show ((bodyFl dY).map entD)[i]? = some (entD e) by rw [List.getElem?_map, hi2]; rfl)
          obtain ⟨t, pa, sv, av, pxs, rfl, ht, hpa, h0p, tpa, tsv, tav⟩ := ent_at tve gd.2.1
          have s36 := (s4.trans s45).trans s6
          refine iteT ⟨_, rfl, _, rfl, D, zs, i, _, rfl, rfl, .inl (.inl (s36 _ _ hD3)), atI_nat hve, ?_⟩
          exact ix_sq (rw_sq (.inr (s36 _ _ ht))) ix0 (k _ _ s06 (tpa.same s36))
      · rintro σ H4 ⟨v4, st, rfl, s4, ef, I⟩
        rw [lz, List.take_length] at ef
        rw [ef] at k
        exact k _ .non (s03.trans s4) rfl
end
end Fm

/-! ## FmTry -/
set_option Elab.async false
set_option maxRecDepth 100000
set_option maxHeartbeats 4000000
/-! A try whose clauses are of both kinds, 'except A' and 'except B as e'. -/
namespace Fm
open PySem PySem.Spec PyProof.Rows L2
/-- an error that has been caught and waits for its clause -/
structure Caught (X : Cx) (pins : List (Addr × Obj)) (σ : L2.St) (H : Hp) (a : Addr) (B : Heap) (cls : Value) (d : Option Addr) (sI s : Shared) : Prop where
  inv : Inv X pins σ H sI
  nb : ∀ b o, sI.heap.get? b = some o → b ∉ frs X.stack → B.get? b = some o
  up : sI.heap.UpToSlots s.heap
  fl : HandSPX.FlyingZ B (X.env :: X.outer) a (Zc cls d) s.heap
  na : H a = none
  os : s.os = sI.os
  ag : AllBare s.gens
/-- what a clause does, told of the slots ahead of it and behind it -/
def tAs (i : Nat) (ts : Addr → Value → Option Addr → TS) : Addr → Value → Option Addr → TS := fun a cls d D σ H =>
  ts a cls d ⟨fun σ' => D.nx (σ'.set i none), D.rt, fun σ' => D.bk (σ'.set i none), fun σ' => D.ct (σ'.set i none)⟩ (σ.set i (some (.ref a))) H
inductive Clauses (X : Cx) : List ExceptHandler → List (Value × (Addr → Value → Option Addr → TS)) → Prop
  | nil : Clauses X [] []
  | bare {x : Str} {c : Value} {ts : Addr → Value → Option Addr → TS} {b₀ : Stmt} {bs : List Stmt} {np p : Pos} {hs : List ExceptHandler} {l : List (Value × (Addr → Value → Option Addr → TS))} (hc : Names X x c)
      (su : ∀ (a : Addr) (oe : Obj) (cls : Value) (d : Option Addr) (pn : List (Addr × Obj)), Zc cls d oe → (∃ vs, oe.data = .fields vs) → PSs (X.suite a ((a, oe) :: pn)) (b₀ :: bs) (ts a cls d)) (r : Clauses X hs l) :
      Clauses X (.ExceptHandler (some (.Name x np)) none (b₀ :: bs) p :: hs) ((c, ts) :: l)
  | named {x n : Str} {i : Nat} {c : Value} {ts : Addr → Value → Option Addr → TS} {b₀ : Stmt} {bs : List Stmt} {np p : Pos} {hs : List ExceptHandler} {l : List (Value × (Addr → Value → Option Addr → TS))} (hN : X.N.Nodup) (hi : X.N[i]? = some n) (hk : X.env.kindOf n = some .local) (hc : Names X x c)
      (su : ∀ (a : Addr) (oe : Obj) (cls : Value) (d : Option Addr) (pn : List (Addr × Obj)), Zc cls d oe → (∃ vs, oe.data = .fields vs) → PSs (X.suite a ((a, oe) :: pn)) (b₀ :: bs) (ts a cls d)) (r : Clauses X hs l) :
      Clauses X (.ExceptHandler (some (.Name x np)) (some n) (b₀ :: bs) p :: hs) ((c, tAs i ts) :: l)
section
variable {X : Cx} {pins : List (Addr × Obj)} {σ : L2.St} {H : Hp} {a : Addr} {B : Heap} {cls c : Value} {d : Option Addr} {sI s : Shared} {x n : Str} {np : Pos} {W : WX} {D : Ends}
theorem Caught.now (C : Caught X pins σ H a B cls d sI s) : Inv X pins σ H s := C.inv.landed C.nb C.fl.1 C.up C.os C.ag
theorem Caught.free (C : Caught X pins σ H a B cls d sI s) {o : Obj} {vs : Array Value} (e : s.heap.get? a = some o) (hd : o.data = .fields vs) : a ∉ frs (X.env :: X.outer) := fun hm => by
  obtain ⟨_, o2, e2, no⟩ := C.fl.2.2.1.mem hm
  rw [e] at e2
  cases e2
  exact no _ hd
theorem Caught.suite (C : Caught X pins σ H a B cls d sI s) (hf : X.env.frame = some X.env.locals) : ∃ oe, Zc cls d oe ∧ (∃ vs, oe.data = .fields vs) ∧ s.heap.get? a = some oe ∧ Inv (X.suite a ((a, oe) :: (X.pn ++ pins))) [] σ H s := by
  obtain ⟨oe, vs, e, z, hd⟩ := C.fl.there
  have no := C.free e hd
  refine ⟨oe, z, ⟨vs, hd⟩, e, C.now.suite e hd C.na (fun q => no ?_) fun q => ?_⟩
  · exact List.mem_filterMap.mpr ⟨X.env, List.mem_cons_self, by rw [hf, q]⟩
  · obtain ⟨v, hv, e2⟩ := List.mem_filterMap.mp q
    exact no (List.mem_filterMap.mpr ⟨v, List.mem_cons_of_mem _ hv, e2⟩)
/-- the clause's class is looked at -/
theorem Caught.asks (C : Caught X pins σ H a B cls d sI s) (hf : X.env.frame = some X.env.locals) (hc : Names X x c) {b : Bool} (hb : PySem.W.exmOne X.K cls c = some b) {Q : Bool → Shared → Prop} {E E' : Value → Shared → Prop} (q : Q b s) :
    wpAny (model X.prog X.w) (X.A.mark (some (.ref a))) (eval (.Name x np) X.env) (fun u s1 => wpAny (model X.prog X.w) (X.A.mark (some (.ref a))) (excMatches (.ref a) u) Q E' s1) E s := by
  obtain ⟨oe, z, _, e, S⟩ := C.suite hf
  have ty : PySem.W.Looks (model X.prog X.w) s.heap (typeOf (.ref a)) cls := fun A' Q' E2 s2 k h => wpAny_typeOf_ref (k _ _ e) (by rw [z.1]; exact h)
  have m := PySem.W.exm_one (M := model X.prog X.w) C.now.kIn ty hb
  obtain ⟨g, nd, h | ⟨h1, h2, h3⟩⟩ := hc
  · exact ld_glob (X := X.suite a ((a, oe) :: (X.pn ++ pins))) S g h (m.here q) nd
  · exact ld_blt (X := X.suite a ((a, oe) :: (X.pn ++ pins))) S g h1 h2 (m.here q) h3 nd
/-- the error lands in its suite -/
theorem Caught.lands (C : Caught X pins σ H a B cls d sI s) {M : Model} {A : Around} {E : Value → Shared → Prop} {Q : Unit → Shared → Prop} (h : ∀ s', Caught X pins σ H a B cls d sI s' → Q () s') : wpAny M A (setFlight (.ref a) none) Q E s :=
  HandSPX.lands_againZ C.fl fun h' f u => h _ ⟨C.inv, C.nb, C.up.trans u, f, C.na, C.os, C.ag⟩
/-- no clause takes it: it goes on -/
theorem Caught.goes (C : Caught X pins σ H a B cls d sI s) (hst : X.stack = X.env :: X.outer) (hf : X.env.frame = some X.env.locals) (tk : Takes X W) (w : W cls d σ H) : wpAny (model X.prog X.w) X.A (handleBy (.ref a) X.env []) (SP X pins D) X.xe s := by
  obtain ⟨_, _, _, oe, vs, t, _, _, e, _, hd, h1, _⟩ := id C.fl
  refine wpAny_handleBy_nil ?_
  unfold PySem.passOn
  refine wpAny_bind (wpAny_field e hd h1 ?_)
  rw [if_neg (show (Value.ref t == Value.none) ≠ true from by simp), hf]
  have last : wpAny (model X.prog X.w) X.A (setFlight (.ref a) (some X.env.locals)) (fun _ s2 => wpAny (model X.prog X.w) X.A (throw (.ref a) : Sem Flow) (SP X pins D) X.xe s2) X.xe s :=
    HandSPX.setFlight_upZ C.fl fun h' f u => wpAny_throw (tk _ _ ⟨a, B, sI, pins, σ, H, cls, d, rfl, C.inv, C.nb, C.up.trans u, .inr (.inr (by rw [hst]; exact f)), C.na, C.os, C.ag, w⟩)
  first
    | exact wpAny_bind (wpAny_pure (wpAny_bind last))
    | exact wpAny_bind last
/-- behind a suite the rest stands as it would without it -/
theorem leave {a : Addr} {q : Addr × Obj} {f : Flow} {s : Shared} (ok : X.Ok) (h : SP (X.suite a (q :: (X.pn ++ pins))) [] D f s) : SP X pins D f s := by
  cases f with
  | next => exact let ⟨_, _, I, z⟩ := h; ⟨_, _, I.unsuite ok, z⟩
  | brk => exact let ⟨_, _, I, z⟩ := h; ⟨_, _, I.unsuite ok, z⟩
  | cont => exact let ⟨_, _, I, z⟩ := h; ⟨_, _, I.unsuite ok, z⟩
  | ret u => exact let ⟨_, _, _, I, r, z⟩ := h; ⟨_, _, _, I.unsuite ok, r, z⟩
theorem Caught.handled {hs : List ExceptHandler} {l : List (Value × (Addr → Value → Option Addr → TS))} (k : Clauses X hs l) (hst : X.stack = X.env :: X.outer) (hf : X.env.frame = some X.env.locals) (tk : Takes X W) :
    ∀ {s : Shared}, Caught X pins σ H a B cls d sI s → wMany X.K W D l cls d σ H → wpAny (model X.prog X.w) X.A (handleBy (.ref a) X.env hs) (SP X pins D) X.xe s := by
  induction k with
  | nil => exact fun C w => C.goes hst hf tk w
  | bare hc su r ih =>
    intro s C ⟨b, hb, yes, no⟩
    refine wpAny_handleBy_cons (codeAny_handlers_test (C.asks hf hc hb ?_)) (fun z => nomatch z)
    cases b with
    | false => exact ih C (no rfl)
    | true =>
      refine codeAny_handlers_suite (C.lands fun s2 C2 => ?_)
      obtain ⟨oe, z, f, _, S⟩ := C2.suite hf
      exact wpAny_mono ((su a oe cls d (X.pn ++ pins) z f).run [] _ _ H _ S (yes rfl a C.na)) (fun g s3 h => by
        have q := leave C.inv.ok h
        cases g <;> exact q) fun _ _ z => z.elim
  | @named x n i c ts b₀ bs np p hs l hN hi hk hc su r ih =>
    intro s C ⟨b, hb, yes, no⟩
    refine wpAny_handleBy_cons (codeAny_handlers_test (C.asks hf hc hb ?_)) (fun z => nomatch z)
    cases b with
    | false => exact ih C (no rfl)
    | true =>
      refine codeAny_handlers_suite_as (C.lands fun s2 C2 => ?_)
      obtain ⟨oe, z, f, _, S⟩ := C2.suite hf
      refine store_ok (X := X.suite a ((a, oe) :: (X.pn ++ pins))) (v := .ref a) S hN hi (.inl hk) rfl (fun s3 S3 => ?_) (.inr hk)
      refine wpAny_mono ((su a oe cls d (X.pn ++ pins) z f).run [] s3 _ H _ S3 (yes rfl a C.na)) (fun g s4 h => ?_) fun _ _ z => z.elim
      have q := leave C.inv.ok h
      cases g with
      | next => exact let ⟨_, _, I, z⟩ := q; gone_ok I hN hi hk fun s5 J => ⟨_, _, J, z⟩
      | brk => exact let ⟨_, _, I, z⟩ := q; gone_ok I hN hi hk fun s5 J => ⟨_, _, J, z⟩
      | cont => exact let ⟨_, _, I, z⟩ := q; gone_ok I hN hi hk fun s5 J => ⟨_, _, J, z⟩
      | ret u => exact let ⟨_, _, _, I, r, z⟩ := q; gone_ok I hN hi hk fun s5 J => ⟨_, _, _, J, r, z⟩
end
section
variable {X : Cx} {body : List Stmt} {h₀ : ExceptHandler} {hs : List ExceptHandler} {l : List (Value × (Addr → Value → Option Addr → TS))} {pos : Pos} {tb : WX → TS} {W : WX}
/-- try with clauses of both kinds, no else, no finally -/
theorem ps_tryM (hst : X.stack = X.env :: X.outer) (hf : X.env.frame = some X.env.locals) (tk : Takes X W)
    (hb : ∀ (W : WX) (pn : List (Addr × Obj)) (xe : Value → Shared → Prop), Takes (X.tr pn xe) W → PassesOwn (model X.prog X.w) X.A X.env xe → PSs (X.tr pn xe) body (tb W))
    (k : Clauses X (h₀ :: hs) l) : PS X (.Try body (h₀ :: hs) [] [] pos) (fun D σ H => tb (wMany X.K W D l) D σ H) := by
  refine ⟨fun pins s σ H D I h => wpAny_Try_except (wpAny_mono ((hb (wMany X.K W D l) (X.pn ++ pins) _ (fun u s' y => ?_) PassesOwn.looking).run [] s σ H D (I.toTry _) h) (fun f s1 q => ?_) (fun e s1 z => z))⟩
  · obtain ⟨a, B, sI, pins', σ', H', cls, d, rfl, J, nb, up, sky, na, os, ag, w⟩ := y
    have fr : X.A.frames = some (X.env :: X.outer) := by rw [I.ok.frames, hst]
    refine Sky.land Zc.steady fr hf (by rw [← hst]; exact sky) fun h3 fl u => ?_
    exact Caught.handled k hst hf tk (s := { s' with heap := h3 }) ⟨J.ofTry I.ok, nb, up.trans u, fl, na, os, ag⟩ w
  · cases f with
    | next => exact let ⟨_, _, J, z⟩ := q; wpAny_execs_nil ⟨_, _, J.ofTry I.ok, z⟩
    | brk => exact let ⟨_, _, J, z⟩ := q; ⟨_, _, J.ofTry I.ok, z⟩
    | cont => exact let ⟨_, _, J, z⟩ := q; ⟨_, _, J.ofTry I.ok, z⟩
    | ret u => exact let ⟨_, _, _, J, r, z⟩ := q; ⟨_, _, _, J.ofTry I.ok, r, z⟩
end
end Fm

/-! ## K08LQ -/
set_option Elab.async false
set_option maxRecDepth 100000
set_option maxHeartbeats 8000000
namespace Fm
open PySem L2
theorem X0.glob {K : PySem.W.Frag} {mg : Str → Option Value} {x : Str} {C : Addr} (B : X0 K mg x C) : mg x = some (.ref C) := by
  obtain ⟨_, _, _, _, _, _, h, _⟩ := B.ex
  exact h
theorem Xf.glob {P : Program} {w : World} {K : PySem.W.Frag} {mg : Str → Option Value} {base : Heap} {x f : Str} {C : Addr} (B : Xf P w K mg base x C f) : mg x = some (.ref C) := by
  obtain ⟨_, _, _, _, _, _, h, _⟩ := B.ex
  exact h
/-- the three errors that the law catches -/
structure Er (K : PySem.W.Frag) (CBS CBB CBP : Addr) : Prop where
  ss : PySem.W.exmOne K (.ref CBS) (.ref CBS) = some true
  bs : PySem.W.exmOne K (.ref CBB) (.ref CBS) = some false
  bb : PySem.W.exmOne K (.ref CBB) (.ref CBB) = some true
  ps : PySem.W.exmOne K (.ref CBP) (.ref CBS) = some false
  pb : PySem.W.exmOne K (.ref CBP) (.ref CBB) = some false
  pp : PySem.W.exmOne K (.ref CBP) (.ref CBP) = some true
  xS : XfC K CBS
  fS : PySem.W.findIn K (.ref CBS) "value" = some none
  xB : XfC K CBB
  fB : PySem.W.findIn K (.ref CBB) "at" = some none
  xP : XfC K CBP
  fP : PySem.W.findIn K (.ref CBP) "value" = some none
theorem nat_all {H : Hp} : ∀ p : List Nat, TpAll H (natL p) (p.map fun i => PyData.int (i : Nat))
  | [] => .nil
  | _ :: p => .cons (.int _) (nat_all p)
theorem nat_tp {H : Hp} {a : Addr} {p : List Nat} (h : H a = some (.tup (natL p))) : Tp H (.ref a) (natsD p) := .tup h (nat_all p)
theorem same_sx {x : Addr} {H H1 H' : Hp} (nx : H x = none) (s1 : Same H H1) (s : SameX x H1 H') : Same H H' := fun a o e => s a o (fun z => by rw [z, nx] at e; cases e) (s1 a o e)
theorem same_cx {x : Addr} {H H1 : Hp} (nx : H x = none) (s1 : Same H H1) : Same H (cut H1 x) := fun a o e => by
  rw [cut_ne (fun z => by rw [z, nx] at e; cases e)]
  exact s1 a o e
section
variable {P : Program} {w : World} {K : PySem.W.Frag} {mg : Str → Option Value} {base : Heap} {CS CG CRd PD CN CBP CBB CBS : Addr}
def spTupL (n : Nat) : Sp := fun vs H Q _ => ∃ (F : Hp) (v : V) (d : PyData), vs = [v] ∧ Same F H ∧ Tp F v d ∧ dep d < n ∧ siz d ≤ 100000 ∧ ∀ v' F' H', Grow F H F' H' → Tp F' v' (tupd d) → Q v' H'
abbrev s_l_tupled : Stmt := topS 86
abbrev sc_l_tupledN : List Str := ["_law_thing", "_law_part"]
abbrev ps_l_tupled : List Str := ["_law_thing"]
theorem sc_l_tupled : FnScope sc_l_tupledN ps_l_tupled (defScope s_l_tupled) := ⟨rfl, rfl, rfl, by decide +kernel, rfl, by decide +kernel, by decide +kernel⟩
theorem ok_l_tupled {f : Addr} {fd : FuncData} (F : Fun K "_law_tupled" "_law_tupled" s_l_tupled f fd) (T : Txt K mg CS) (hm : mg "_law_tupled" = some (.ref f)) (hb : Binds K fd ps_l_tupled []) : ∀ n, FnOk P w K mg base CX0 n f fd ps_l_tupled (spTupL n)
  | 0 => fn_no fun vs H Q E h => by
    obtain ⟨_, _, d, _, _, _, hd, _⟩ := h
    exact absurd hd (Nat.not_lt_zero _)
  | n + 1 => by
    have D_l_tupled : Df P w K mg base "_law_tupled" n ps_l_tupled (spTupL n) := ⟨f, fd, ok_l_tupled F T hm hb n, hm, F.kp, hb⟩
    refine F.ok sc_l_tupled (fun vs H Q E h => ?_) (fun cdv A outer s H vs Q E hr h => ?_)
    · obtain ⟨_, _, _, rfl, _⟩ := h
      rfl
    · obtain ⟨F0, v, d, rfl, sF, hv, hd, hz, k⟩ := h
      refine ⟨_, (pss_cons (ps_if (pt_val (pe_callB call_isiT (by rfl) T.n_isinstance (by decide +kernel) (pa_cons (pv 0) (pa_cons (pe_tup (pa_cons (pe_bltn (v := .ty "list") (by rfl) T.n_list (by decide +kernel) rfl) (pa_cons (pe_bltn (v := .ty "tuple") (by rfl) T.n_tuple (by decide +kernel) rfl) pa_nil))) pa_nil))))
    (pss_one (ps_ret (pe_callTy call_tuple_of (by rfl) T.n_tuple (by decide +kernel) (pa_cons (pe_lc (own := [("_law_part", 1)]) (g := gName 1) (tt := tYes) (by rfl) sc_l_tupled.nd (pi_any (pv 0)) (blkOk_by (own := [("_law_part", 1)]) (N := sc_l_tupledN) (sc := defScope s_l_tupled) (by decide +kernel)) (fun _ _ _ _ _ => pg_name (i := 1) sc_l_tupled.nd rfl (Or.inl rfl)) (fun _ _ _ _ _ => pts_nil) (fun _ _ _ _ _ => (pe_d D_l_tupled hr (pa_cons (pv 1) pa_nil)))) pa_nil))))
    pss_nil)
  (pss_one (ps_ret (pv 0)))), ?_⟩
      refine ⟨_, rfl, (by show 2 ≤ sizeLine; decide), fun tp htp => ?_⟩
      have s1 : Same H (upd H tp (.tup [.ty "list", .ty "tuple"])) := same_new _ htp
      have sF1 := sF.trans s1
      have g1 : Grow F0 H F0 (upd H tp (.tup [.ty "list", .ty "tuple"])) := (Grow.refl sF).junk (sF.free htp) htp _
      refine ⟨_, tp, _, _, _, _, rfl, upd_same, clsLT, (hv.same sF1).ty, kitAny_row, _, rfl, ?_⟩
      cases e : isRowD d with
      | false =>
        rw [tupd_flat e] at k
        exact iteF ⟨_, rfl, k _ F0 _ g1 hv⟩
      | true =>
        obtain ⟨a, xs, rfl, hx, ha⟩ := hv.row e
        rw [dep_row e] at hd
        rw [siz_row e] at hz
        have ls := siz_len (partsD d)
        generalize upd H tp (.tup [.ty "list", .ty "tuple"]) = H1 at *
        refine iteT ⟨_, rfl, a, xs, rfl, any_of (K := K) (rw_sq hx) sF1 fun J G gm wk => (fun D hD => ?_)⟩
        refine lc_it wk (fun i H' => ∃ F' ys, Acc F0 H1 D F' H' ys ∧ TpAll F' ys (((partsD d).take i).map tupd)) ⟨F0, [], Acc.start sF1 hD, .nil⟩ (fun i H' _ z => by obtain ⟨F', ys, ac, _⟩ := z; exact gm H' (ac.g.ff.trans ac.g.fh)) ?_ ?_
        · rintro i x H2 H3 hi ⟨F2, ys, ac, ta⟩ ⟨rfl, hxi⟩
          obtain ⟨c, hc, hcv⟩ := ha.at hxi
          have mc := List.mem_of_getElem? hc
          have y1 := dep_mem mc
          have y2 := siz_mem mc
          refine ⟨rfl, _, rfl, F2, x, c, rfl, ac.g.fh, hcv.same ac.g.ff, by omega, by omega, fun y F3 H4 g ty => ?_⟩
          have ac2 := ac.then g
          refine ⟨ys, ac2.at_, ?_, F3, ys ++ [y], ac2.add _, ?_⟩
          · rw [ta.len, List.length_map, List.length_take]
            exact Nat.lt_of_le_of_lt (show min i (partsD d).length ≤ 100000 by omega) (by decide)
          · rw [map_take _ hc]
            exact (ta.same g.ff).snoc ty
        · rintro H2 ⟨F2, ys, ac, ta⟩
          rw [ha.len, List.take_length] at ta
          rw [tupd_parts e] at k
          refine ⟨D, ys, rfl, .inl ⟨.inl (.inl ac.at_), fun l hl => ?_⟩⟩
          exact k _ _ _ (g1.trans (ac.g.trans (Grow.new ac.g.fh _ hl))) (.tup upd_same (ta.same (same_new _ (ac.g.fh.free hl))))
def spMadeP (CS CG : Addr) : Sp := fun vs H Q _ => ∃ (sv bv yv : V) (dB dY : PyData), vs = [sv, bv, yv] ∧ Tp H bv dB ∧ Tp H yv dY ∧ dep dB < 40 ∧ dep dY < 40 ∧ siz dB ≤ 40000 ∧ siz dY ≤ 40000 ∧ mst dB ≤ 100000 ∧ mst dY ≤ 100000 ∧
  ((∃ d, Tp H sv d ∧ ∀ v H', Same H H' → Tp H' v (.tuple [.str "store", d]) → Q v H') ∨
   ∃ sh ts, sv = .ref sh ∧ ShT CS H sh (tsD ts) ∧ TsOk ts ∧ (∀ i, blocksBad ts dB = some i → ∀ v H', Same H H' → Tp H' v (.tuple [.str "block", .int i]) → Q v H') ∧
    (blocksBad ts dB = none → (∀ p, bodyRead ts (envB dB) dY = .error p → ∀ v H', Same H H' → Tp H' v (.tuple [.str "program", natsD p]) → Q v H') ∧
      ∀ st, bodyRead ts (envB dB) dY = .ok st → ∀ (tp x dx : Addr) (b y : V) (H' : Hp), Same H H' → H' tp = some (.tup [.str "made", .ref x]) → H' x = some (.ins CG dx (pgF sh b y)) → Tp H' b (tupd dB) → Tp H' y (tupd dY) → Q (.ref tp) H'))
abbrev s_l_made : Stmt := topS 87
abbrev sc_l_madeN : List Str := ["_law_shape", "_law_blocks_here", "_law_body", "_law_found", "_law_program", "e"]
abbrev ps_l_made : List Str := ["_law_shape", "_law_blocks_here", "_law_body"]
theorem sc_l_made : FnScope sc_l_madeN ps_l_made (defScope s_l_made) := ⟨rfl, rfl, rfl, by decide +kernel, rfl, by decide +kernel, by decide +kernel⟩
theorem ok_l_made {f : Addr} {fd : FuncData} (F : Fun K "_law_made" "_law_made" s_l_made f fd) (R : Er K CBS CBB CBP) (D_Program : DcX P w K mg base "Program" CG 42 ps_Program_init (spPgInit CS CG CBS CBB CBP)) (X_BadStore : Xf P w K mg base "BadStore" CBS "value") (X_BadBlock : Xf P w K mg base "BadBlock" CBB "at") (X_BadProgram : Xf P w K mg base "BadProgram" CBP "value") : FnOk P w K mg base CX0 44 f fd ps_l_made (spMadeP CS CG) := by
  refine F.ok sc_l_made (fun vs H Q E h => ?_) (fun cdv A outer s H vs Q E hr h => ?_)
  · obtain ⟨_, _, _, _, _, rfl, _⟩ := h
    rfl
  · obtain ⟨sv, bv, yv, dB, dY, rfl, hb, hy, pb, py, zb, zy, mb, my, alt⟩ := h
    refine ⟨_, (pss_cons (ps_set (i := 3) sc_l_made.nd rfl (Or.inl rfl) pe_non)
  (pss_cons (ps_set (i := 4) sc_l_made.nd rfl (Or.inl rfl) pe_non)
  (Evl.pss_cut (ps_tryM (W := fun _ _ _ _ => False) rfl rfl takes0
    (fun W pn xe tk _ => by exact (pss_one (ps_set (i := 4) sc_l_made.nd rfl (Or.inl rfl) (pe_dcE D_Program (hr.mono (by decide)) tk (pa_cons (pv 0) (pa_cons (pv 1) (pa_cons (pv 2) pa_nil)))))))
    (Clauses.named (i := 5) sc_l_made.nd rfl rfl ⟨rfl, by decide, Or.inl X_BadStore.glob⟩ (fun a oe cls d pn hz hf => by exact (pss_one (ps_set (i := 3) sc_l_made.nd rfl (Or.inl rfl) (pe_tup (pa_cons pe_str (pa_cons (pe_xk (K := K) hz hf (pv 5)) pa_nil))))))
    (Clauses.named (i := 5) sc_l_made.nd rfl rfl ⟨rfl, by decide, Or.inl X_BadBlock.glob⟩ (fun a oe cls d pn hz hf => by exact (pss_one (ps_set (i := 3) sc_l_made.nd rfl (Or.inl rfl) (pe_tup (pa_cons pe_str (pa_cons (pe_xk (K := K) hz hf (pv 5)) pa_nil))))))
    (Clauses.named (i := 5) sc_l_made.nd rfl rfl ⟨rfl, by decide, Or.inl X_BadProgram.glob⟩ (fun a oe cls d pn hz hf => by exact (pss_one (ps_set (i := 3) sc_l_made.nd rfl (Or.inl rfl) (pe_tup (pa_cons pe_str (pa_cons (pe_xk (K := K) hz hf (pv 5)) pa_nil))))))
    Clauses.nil))))
  (pss_cons (ps_if (pt_cmpR op_notN (pv 3) pe_non (nomark _))
    (pss_one (ps_ret (pv 3)))
    pss_nil)
  (pss_one (ps_ret (pe_tup (pa_cons pe_str (pa_cons (pv 4) pa_nil))))))))), ?_⟩
    refine ⟨fun σ' H' => (∃ t sx, σ' = [some sv, some bv, some yv, some (.ref t), sx, none] ∧ Q (.ref t) H') ∨
      ∃ x, σ' = [some sv, some bv, some yv, some .non, some (.ref x), none] ∧ ∀ tp, H' tp = none → Q (.ref tp) (upd H' tp (.tup [.str "made", .ref x])), ?_, ?_⟩
    · refine ⟨_, rfl, _, rfl, _, rfl, fun x dx nx nd ne => ?_⟩
      have s1 : Same H (upd (upd H dx (.own x)) x (.ins CG dx [])) := fun a o e => by
        rw [upd_ne (fun z => by rw [z, nx] at e; cases e), upd_ne (fun z => by rw [z, nd] at e; cases e)]
        exact e
      have hx1 : (upd (upd H dx (.own x)) x (.ins CG dx [])) x = some (.ins CG dx []) := upd_same
      generalize upd (upd H dx (.own x)) x (.ins CG dx []) = H1 at *
      have sc := same_cx nx s1
      refine ⟨x, dx, sv, bv, yv, dB, dY, rfl, hx1, hb.same sc, hy.same sc, pb, py, zb, zy, mb, my, ?_⟩
      rcases alt with ⟨d, hd, k⟩ | ⟨sh, ts, rfl, shA, ok, kB, kG⟩
      · refine .inl ⟨d, hd.same sc, fun dd H2 s2 hn hdd => ⟨true, R.ss, fun _ a na => ⟨_, rfl, rfl, CBS, dd, _, _, rfl, R.xS, R.fS, rfl, hdd, rfl, (by show 2 ≤ sizeLine; decide), fun t ht => .inl ⟨t, _, rfl, ?_⟩⟩, fun q => nomatch q⟩⟩
        have s3 := (s1.trans s2).trans (same_new (.tup [.str "store", sv]) ht)
        exact k _ _ s3 (.tup upd_same (.cons (.str _) (.cons (hd.same s3) .nil)))
      · refine .inr ⟨sh, ts, rfl, shA.same sc, ok, fun i e dd H2 s2 hn hdd => ⟨false, R.bs, (fun q => nomatch q), fun _ => ⟨true, R.bb, fun _ a na => ⟨_, rfl, rfl, CBB, dd, _, _, rfl, R.xB, R.fB, rfl, hdd, rfl, (by show 2 ≤ sizeLine; decide), fun t ht => .inl ⟨t, _, rfl, ?_⟩⟩, fun q => nomatch q⟩⟩, fun e => ⟨fun p ep dd pp H2 s2 hn hpp hdd => ⟨false, R.ps, (fun q => nomatch q), fun _ => ⟨false, R.pb, (fun q => nomatch q), fun _ => ⟨true, R.pp, fun _ a na => ⟨_, rfl, rfl, CBP, dd, _, _, rfl, R.xP, R.fP, rfl, hdd, rfl, (by show 2 ≤ sizeLine; decide), fun t ht => .inl ⟨t, _, rfl, ?_⟩⟩, fun q => nomatch q⟩⟩⟩, fun st es b y H2 s2 hx2 hb2 hy2 => ⟨rfl, .inr ⟨x, rfl, fun tp htp => ?_⟩⟩⟩⟩
        · have s3 := (s1.trans s2).trans (same_new (.tup [.str "block", .int i]) ht)
          exact kB i e _ _ s3 (.tup upd_same (.cons (.str _) (.cons (.int _) .nil)))
        · have s3 := (same_sx nx s1 s2).trans (same_new (.tup [.str "program", .ref pp]) ht)
          exact (kG e).1 p ep _ _ s3 (.tup upd_same (.cons (.str _) (.cons (nat_tp (same_new _ ht _ _ hpp)) .nil)))
        · have s3 := (same_sx nx s1 s2).trans (same_new (.tup [.str "made", .ref x]) htp)
          have sn := same_new (.tup [.str "made", .ref x]) htp
          exact (kG e).2 st es tp x dx b y _ s3 upd_same (sn _ _ hx2) (hb2.same (cut_sub.trans sn)) (hy2.same (cut_sub.trans sn))
    · rintro σ' H' (⟨t, sx, rfl, q⟩ | ⟨x, rfl, q⟩)
      · exact ⟨_, rfl, rfl, _, rfl, iteT ⟨_, rfl, q⟩⟩
      · exact ⟨_, rfl, rfl, _, rfl, iteF ⟨_, rfl, (by show 2 ≤ sizeLine; decide), q⟩⟩
end
end Fm

/-! ## FmFrame -/
set_option Elab.async false
set_option maxRecDepth 100000
set_option maxHeartbeats 4000000
/-! A part G of what is tracked, F; data that no list is in; data as the library's plain data. -/
namespace Fm
open PySem L2
theorem uni_r {N M : Hp} {a : Addr} (h : N a = none) : uni N M a = M a := by
  unfold uni
  rw [h]
theorem uni_l {N M : Hp} {a : Addr} {o : HO} (h : N a = some o) : uni N M a = some o := by
  unfold uni
  rw [h]
/-- a part grows by what leaves all else as it stands -/
theorem Grow.under {G F H G' H' : Hp} {b : Addr} (s : Same G F) (B : Bag F H b) (g : Grow G H G' H') : ∃ F', Grow G F G' F' ∧ Bag F' H' b := by
  obtain ⟨fh, fb, cl, ns, p, gg, z, c, h, e1, e2, e3, e4, r⟩ := B
  have no : ∀ a o, F a = none → H a = some o → G' a = none ∧ H' a = some o := fun a o h1 h2 => g.hh a o (s.free h1) h2
  have keep : ∀ a o, F a = some o → uni G' F a = some o := fun a o h => by
    cases q : G a with
    | some u =>
      have z := s a u q
      rw [h] at z
      rw [z]
      exact uni_l (g.ff _ _ q)
    | none => rw [uni_r (g.hh a o q (fh _ _ h)).1]; exact h
  refine ⟨uni G' F, ⟨g.ff, same_uni, fun a o h1 h2 => ⟨(g.hh a o h1 (fh _ _ h2)).1, keep a o h2⟩⟩, fun a o e => ?_, ?_, cl, ns, p, gg, z, c, h, ?_, e2, (no _ _ e1 e3).2, (no _ _ fb e4).2, r⟩
  · rcases uni_or e with e | ⟨q, e⟩
    · exact g.fh _ _ e
    · cases q2 : G a with
      | some u =>
        rw [g.ff _ _ q2] at q
        cases q
      | none => exact (g.hh a o q2 (fh _ _ e)).2
  · rw [uni_r (no _ _ fb e4).1]
    exact fb
  · rw [uni_r (no _ _ e1 e3).1]
    exact e1
/-- what is in the part only for a while -/
theorem Grow.out {G F G' F' : Hp} {h : Addr} {x : HO} (g : Grow (upd G h x) (upd F h x) G' F') (fh : F h = none) (gh : G h = none) : Grow G F (cut G' h) F' := by
  refine ⟨same_cut ((same_new x gh).trans g.ff) gh, cut_sub.trans g.fh, fun a o h1 h2 => ?_⟩
  have n := ne_of_none h2 fh
  obtain ⟨z1, z2⟩ := g.hh a o (by rw [upd_ne n]; exact h1) (by rw [upd_ne n]; exact h2)
  exact ⟨by rw [cut_ne n]; exact z1, z2⟩
/-- a place that the part does not speak of -/
theorem Grow.side {G F G' F' : Hp} {D : Addr} {o : HO} (g : Grow G F G' F') (h : G' D = none) (hF : F D = none) : Grow G F G' (upd F' D o) := g.junk h hF o
/-- what was new becomes a part of what is spoken of -/
theorem Grow.take {G F G' F' : Hp} {D : Addr} (g : Grow G F G' F') (hF : F D = none) (hG : G D = none) (o : HO) : Grow G F (upd G' D o) (upd F' D o) := by
  refine ⟨fun a u e => ?_, same_upd g.fh D o, fun a u e1 e2 => ?_⟩
  · rw [upd_ne (ne_of_none e hG)]
    exact g.ff _ _ e
  · have n := ne_of_none e2 hF
    rw [upd_ne n, upd_ne n]
    exact g.hh a u e1 e2
theorem Bag.late {F H H' : Hp} {b p : Addr} {o : HO} (B : Bag F H b) (hp : H p = none) (s : Same H H') (e : H' p = some o) : Bag (upd F p o) H' b := by
  refine bag_same (B.new o hp) fun a u q => ?_
  by_cases z : a = p
  · rw [z, upd_same] at q
    rw [z, e]
    exact q
  · rw [upd_ne z] at q
    exact s _ _ q
/-! ### data without lists -/
mutual
def noL : PyData → Bool
  | .list _ => false
  | .dict _ => false
  | .tuple ds => noLs ds
  | _ => true
def noLs : List PyData → Bool
  | [] => true
  | d :: ds => noL d && noLs ds
end
mutual
theorem Tp.cut {F : Hp} {h : Addr} {l : List V} (e : F h = some (.lst l)) : ∀ {d : PyData} {v : V}, Tp F v d → noL d = true → Tp (cut F h) v d
  | .none, _, h, _ => by cases h; exact .non
  | .bool b, _, h, _ => by cases h; exact .bl b
  | .int i, _, h, _ => by cases h; exact .int i
  | .str x, _, h, _ => by cases h; exact .str x
  | .list ds, _, _, n => by cases n
  | .dict _, _, _, n => by cases n
  | .tuple ds, _, t, n => by
    cases t with
    | tup hs ha =>
      refine .tup ?_ (TpAll.cut e ha n)
      rw [cut_ne fun z => by rw [z, e] at hs; cases hs]
      exact hs
theorem TpAll.cut {F : Hp} {h : Addr} {l : List V} (e : F h = some (.lst l)) : ∀ {ds : List PyData} {vs : List V}, TpAll F vs ds → noLs ds = true → TpAll (cut F h) vs ds
  | [], _, h, _ => by cases h; exact .nil
  | d :: ds, _, t, n => by
    cases t with
    | cons h1 h2 =>
      have n' : (noL d && noLs ds) = true := n
      rw [Bool.and_eq_true] at n'
      exact .cons (Tp.cut e h1 n'.1) (TpAll.cut e h2 n'.2)
end
theorem noLs_all : ∀ {ds : List PyData}, (∀ d ∈ ds, noL d = true) → noLs ds = true
  | [], _ => rfl
  | d :: ds, h => by
    show (noL d && noLs ds) = true
    rw [h d List.mem_cons_self, noLs_all fun c m => h c (List.mem_cons_of_mem _ m)]
    rfl
/-! ### plain data -/
mutual
def noD : PyData → Bool
  | .list ds => noDs ds
  | .dict _ => false
  | .tuple ds => noDs ds
  | _ => true
def noDs : List PyData → Bool
  | [] => true
  | d :: ds => noD d && noDs ds
end
mutual
theorem Tp.plain {K : PySem.W.Frag} {F : Hp} : ∀ {d : PyData} {v : V}, Tp F v d → noD d = true → Dp K F v d
  | .none, _, h, _ => by cases h; exact .non
  | .bool b, _, h, _ => by cases h; exact .bl b
  | .int i, _, h, _ => by cases h; exact .int i
  | .str x, _, h, _ => by cases h; exact .str x
  | .dict _, _, _, n => by cases n
  | .list ds, _, t, n => by
    cases t with
    | lst hs ha => exact .lst (.inl (.inl hs)) (TpAll.plain ha n)
  | .tuple ds, _, t, n => by
    cases t with
    | tup hs ha => exact .tup (.inl (.inl hs)) (TpAll.plain ha n)
theorem TpAll.plain {K : PySem.W.Frag} {F : Hp} : ∀ {ds : List PyData} {vs : List V}, TpAll F vs ds → noDs ds = true → DpAll K F vs ds
  | [], _, h, _ => by cases h; exact .nil
  | d :: ds, _, t, n => by
    cases t with
    | cons h1 h2 =>
      have n' : (noD d && noDs ds) = true := n
      rw [Bool.and_eq_true] at n'
      exact .cons (Tp.plain h1 n'.1) (TpAll.plain h2 n'.2)
end
theorem noDs_all : ∀ {ds : List PyData}, (∀ d ∈ ds, noD d = true) → noDs ds = true
  | [], _ => rfl
  | d :: ds, h => by
    show (noD d && noDs ds) = true
    rw [h d List.mem_cons_self, noDs_all fun c m => h c (List.mem_cons_of_mem _ m)]
    rfl
end Fm

/-! ## K08LR -/
set_option Elab.async false
set_option maxRecDepth 100000
set_option maxHeartbeats 8000000
namespace Fm
open PySem L2
/-! ### shapes, as plain data -/
theorem strOk_nm {s : Str} (h : isNm s = true) : PyData.strOk s = true := by
  unfold isNm at h
  simp only [Bool.and_eq_true, List.all_eq_true, decide_eq_true_eq] at h
  show s.cps.all (· < 0x110000) = true
  rw [← Array.all_toList, List.all_eq_true]
  intro c m
  have q := h.2 c m
  exact decide_eq_true (by omega)
theorem canLay_strs : ∀ {xs : List Str}, (∀ f ∈ xs, isNm f = true) → PyData.canLayAll0 (xs.map PyData.str) = true
  | [], _ => rfl
  | x :: xs, h => by
    show (PyData.strOk x && PyData.canLayAll0 (xs.map PyData.str)) = true
    rw [strOk_nm (h x List.mem_cons_self), canLay_strs fun f m => h f (List.mem_cons_of_mem _ m)]
    rfl
theorem depth_strs : ∀ (xs : List Str), PyData.depthAll (xs.map PyData.str) = 0
  | [] => rfl
  | x :: xs => by
    show max 0 (PyData.depthAll (xs.map PyData.str)) = 0
    rw [depth_strs xs]
    rfl
theorem canLay_tabs : ∀ {ts : List Tab}, (∀ t ∈ ts, TOk t) → PyData.canLayAll0 (ts.map (tabD false)) = true
  | [], _ => rfl
  | t :: ts, h => by
    have ok := h t List.mem_cons_self
    show ((PyData.strOk t.1 && (PyData.canLayAll0 (t.2.map PyData.str) && true)) && PyData.canLayAll0 (ts.map (tabD false))) = true
    rw [strOk_nm ok.nm, canLay_strs ok.fs.nm, canLay_tabs fun u m => h u (List.mem_cons_of_mem _ m)]
    rfl
theorem depth_tabs : ∀ (ts : List Tab), PyData.depthAll (ts.map (tabD false)) ≤ 2
  | [] => Nat.zero_le _
  | t :: ts => by
    show max (max 0 (max (PyData.depthAll (t.2.map PyData.str) + 1) 0) + 1) (PyData.depthAll (ts.map (tabD false))) ≤ 2
    have ih := depth_tabs ts
    rw [depth_strs]
    omega
theorem shaped_tabs {ts : List Tab} (h : ∀ t ∈ ts, TOk t) : SeqAt.shaped (tsD ts) = true := by
  have d := depth_tabs ts
  show (PyData.canLayAll0 (ts.map (tabD false)) && decide (PyData.depthAll (ts.map (tabD false)) + 1 ≤ 64)) = true
  rw [canLay_tabs h, decide_eq_true (by omega)]
  rfl
theorem noDs_strs : ∀ xs : List Str, noDs (xs.map PyData.str) = true := fun xs => noDs_all fun d m => by
  obtain ⟨_, _, rfl⟩ := List.mem_map.mp m
  rfl
theorem noD_tabs (ts : List Tab) : noD (tsD ts) = true := by
  show noDs (ts.map (tabD false)) = true
  refine noDs_all fun d m => ?_
  obtain ⟨t, _, rfl⟩ := List.mem_map.mp m
  show (true && (noDs (t.2.map PyData.str) && true)) = true
  rw [noDs_strs]
  rfl
mutual
theorem bd_tupd : ∀ d : PyData, dep (tupd d) = dep d ∧ siz (tupd d) = siz d
  | .none => ⟨rfl, rfl⟩
  | .bool _ => ⟨rfl, rfl⟩
  | .int _ => ⟨rfl, rfl⟩
  | .str _ => ⟨rfl, rfl⟩
  | .dict _ => ⟨rfl, rfl⟩
  | .list ds => by
    obtain ⟨h1, h2⟩ := bdL_tupd ds
    exact ⟨show 1 + depL (tupdL ds) = 1 + depL ds by rw [h1], show 1 + sizL (tupdL ds) = 1 + sizL ds by rw [h2]⟩
  | .tuple ds => by
    obtain ⟨h1, h2⟩ := bdL_tupd ds
    exact ⟨show 1 + depL (tupdL ds) = 1 + depL ds by rw [h1], show 1 + sizL (tupdL ds) = 1 + sizL ds by rw [h2]⟩
theorem bdL_tupd : ∀ ds : List PyData, depL (tupdL ds) = depL ds ∧ sizL (tupdL ds) = sizL ds
  | [] => ⟨rfl, rfl⟩
  | d :: ds => by
    obtain ⟨h1, h2⟩ := bd_tupd d
    obtain ⟨h3, h4⟩ := bdL_tupd ds
    exact ⟨show max (dep (tupd d)) (depL (tupdL ds)) = max (dep d) (depL ds) by rw [h1, h3], show siz (tupd d) + sizL (tupdL ds) = siz d + sizL ds by rw [h2, h4]⟩
end
theorem fold_err {ts : List Tab} {bs : Env} {q : List Nat} : ∀ {es : List Ent} {st : RS}, foldE ts bs st es = .error q → ∃ e ∈ es, e.1 = q
  | [], _, h => by cases h
  | x :: es, st, h => by
    have h : thenE (stepE ts bs st x) (fun s => foldE ts bs s es) = .error q := h
    cases y : stepE ts bs st x with
    | error p =>
      rw [y] at h
      obtain rfl : p = q := Except.error.inj h
      refine ⟨x, List.mem_cons_self, ?_⟩
      unfold stepE at y
      split at y
      · exact Except.error.inj y
      · cases y
    | ok s2 =>
      rw [y] at h
      obtain ⟨e, m, z⟩ := fold_err (es := es) h
      exact ⟨e, List.mem_cons_of_mem _ m, z⟩
theorem flat_len : ∀ (n : Nat) (p : List Nat) (ar : List PyData) (d : PyData) (e : Ent), e ∈ flatS n p ar d → e.1.length ≤ p.length + n
  | 0, p, ar, d, e, h => by
    rw [List.mem_singleton.mp (show e ∈ [(p, d, ar)] from h)]
    exact Nat.le_refl _
  | n + 1, p, ar, d, e, h => by
    rcases List.mem_cons.mp (show e ∈ (p, d, ar) :: (if goesIn d = true then flatL (fun p' d' => flatS n p' (innerL ar d) d') p 0 (bodyD d) else []) from h) with h | h
    · rw [h]
      exact Nat.le_add_right _ _
    · split at h
      · obtain ⟨j, c, m, q⟩ := flatL_mem h
        have z := flat_len n _ _ c e q
        rw [List.length_append] at z
        have z : e.1.length ≤ p.length + 1 + n := z
        omega
      · cases h
theorem body_err {ts : List Tab} {bs : Env} {d : PyData} {q : List Nat} (h : bodyRead ts bs d = .error q) : q.length ≤ 9 := by
  by_cases e : rowD3 1 12 d = true
  · rw [body_flat ts bs d e] at h
    obtain ⟨x, m, rfl⟩ := fold_err h
    have m : x ∈ [] ++ (flatL (fun q d => flatS 8 q [] d) [] 0 (partsD d)).take (42 - 0) := m
    rw [List.nil_append] at m
    obtain ⟨j, c, _, y⟩ := flatL_mem (List.mem_of_mem_take m)
    exact flat_len 8 _ _ c x y
  · unfold bodyRead at h
    rw [if_neg e] at h
    rw [← Except.error.inj h]
    exact Nat.zero_le _
theorem nats_bd : ∀ q : List Nat, depL (q.map fun i => PyData.int (i : Nat)) = 0 ∧ sizL (q.map fun i => PyData.int (i : Nat)) = q.length
  | [] => ⟨rfl, rfl⟩
  | x :: q => by
    obtain ⟨h1, h2⟩ := nats_bd q
    refine ⟨?_, ?_⟩
    · show max 0 (depL (q.map fun i => PyData.int (i : Nat))) = 0
      rw [h1]
      rfl
    · show 1 + sizL (q.map fun i => PyData.int (i : Nat)) = q.length + 1
      rw [h2]
      omega
theorem prog_bd {q : List Nat} (h : q.length ≤ 9) : dep (.tuple [.str "program", natsD q]) < 40 ∧ siz (.tuple [.str "program", natsD q]) ≤ 100000 := by
  obtain ⟨h1, h2⟩ := nats_bd q
  refine ⟨?_, ?_⟩
  · show 1 + max 0 (max (1 + depL (q.map fun i => PyData.int (i : Nat))) 0) < 40
    rw [h1]
    decide
  · show 1 + (1 + ((1 + sizL (q.map fun i => PyData.int (i : Nat))) + 0)) ≤ 100000
    rw [h2]
    omega
theorem kit_same {K : PySem.W.Frag} (C : Addr) : PySem.W.kitOne K (.ref C) (.ref C) = some true := by
  show (if (Value.ref C == Value.ref C) = true then some true else _) = some true
  rw [if_pos (beq_self_eq_true _)]
theorem first_same {K : PySem.W.Frag} (C : Addr) : PySem.W.notFirst K C (.ref C) = true := by
  show ((Value.ref C == Value.ref C) || _) = true
  rw [beq_self_eq_true]
  rfl
section
variable {P : Program} {w : World} {K : PySem.W.Frag} {mg : Str → Option Value} {base : Heap} {CS CG CRd PD CN CBP CBB CBS : Addr}
/-- two shapes of the same tables -/
def spShSame (CS : Addr) : Sp := fun vs H Q _ => ∃ (F : Hp) (a b : Addr) (ts : List Tab), vs = [.ref a, .ref b] ∧ Same F H ∧ ShT CS F a (tsD ts) ∧ ShT CS F b (tsD ts) ∧ TsOk ts ∧ Q (.bl true) H
abbrev s_Shape_eq : Stmt := inClass (topS 21) 1
abbrev sc_Shape_eqN : List Str := ["self", "other"]
abbrev ps_Shape_eq : List Str := ["self", "other"]
theorem sc_Shape_eq : FnScope sc_Shape_eqN ps_Shape_eq (defScope s_Shape_eq) := ⟨rfl, rfl, rfl, by decide +kernel, rfl, by decide +kernel, by decide +kernel⟩
theorem ok_Shape_eq {f : Addr} {fd : FuncData} (F : Fun K "__eq__" "Shape.__eq__" s_Shape_eq f fd) (T : Txt K mg CS) : FnOk P w K mg base CX0 1 f fd ps_Shape_eq (spShSame CS) := by
  refine F.ok sc_Shape_eq (fun vs H Q E h => ?_) (fun cdv A outer s H vs Q E hr h => ?_)
  · obtain ⟨_, _, _, _, rfl, _⟩ := h
    rfl
  · obtain ⟨F0, a, b, ts, rfl, sF, ⟨dx, v, ha, dv⟩, ⟨dy, u, hb, du⟩, ok, k⟩ := h
    refine ⟨_, (pss_one (ps_ret (pe_and (pe_callB call_isi (by rfl) T.n_isinstance (by decide +kernel) (pa_cons (pv 1) (pa_cons (pe_glob (v := .ref CS) rfl T.g_Shape rfl) pa_nil))) (pe_one (pe_cmpR (op_eqD hr.units) (pe_fld (pv 0) rfl) (pe_fld (pv 1) rfl) (nomark _)))))), ?_⟩
    refine ⟨_, rfl, _, _, _, _, _, rfl, .own _, .base (.ins (sF _ _ hb) T.cl T.c_cls T.c_get T.c_tak T.c_mro), kit_same CS, _, rfl, iteT ?_⟩
    have sh := shaped_tabs ok.ok
    refine ⟨_, rfl, a, CS, dx, _, v, rfl, sF _ _ ha, T.cl, T.nT, rfl, _, rfl, b, CS, dy, _, u, rfl, sF _ _ hb, T.cl, T.nT, rfl, _, _, (dv.same sF).plain (noD_tabs ts), (du.same sF).plain (noD_tabs ts), sh, sh, ?_⟩
    have e : PyData.eqv (tsD ts) (tsD ts) = true := SeqAt.eqv_refl _ (SeqAt.canLay_of_shaped sh)
    rw [e]
    exact k
def spPDue : Sp := fun vs H Q _ => ∃ (p : Addr) (bv yv : V) (ts : List Tab) (dB dY : PyData), vs = [.ref p, bv, yv] ∧ TbAt H p ts ∧ TsOk ts ∧ Tp H bv dB ∧ Tp H yv dY ∧ siz dB ≤ 40000 ∧ mst dB ≤ 100000 ∧ mst dY ≤ 100000 ∧
  (∀ i, blocksBad ts dB = some i → ∀ v H', Same H H' → Tp H' v (.tuple [.str "block", .int i]) → Q v H') ∧
  (blocksBad ts dB = none → (∀ p, bodyRead ts (envB dB) dY = .error p → ∀ v H', Same H H' → Tp H' v (.tuple [.str "program", natsD p]) → Q v H') ∧ ∀ st, bodyRead ts (envB dB) dY = .ok st → ∀ H', Same H H' → Q .non H')
abbrev s_l_program_due : Stmt := topS 88
abbrev sc_l_program_dueN : List Str := ["_law_tables_here", "_law_blocks_here", "_law_body", "_law_at_here", "_law_path"]
abbrev ps_l_program_due : List Str := ["_law_tables_here", "_law_blocks_here", "_law_body"]
theorem sc_l_program_due : FnScope sc_l_program_dueN ps_l_program_due (defScope s_l_program_due) := ⟨rfl, rfl, rfl, by decide +kernel, rfl, by decide +kernel, by decide +kernel⟩
theorem ok_l_program_due {f : Addr} {fd : FuncData} (F : Fun K "_law_program_due" "_law_program_due" s_l_program_due f fd) (D_l_blocks_due : Df P w K mg base "_law_blocks_due" 3 ps_l_blocks_due spBDue) (D_l_wrong_path : Df P w K mg base "_law_wrong_path" 13 ps_l_wrong_path spWrongP) : FnOk P w K mg base CX0 14 f fd ps_l_program_due spPDue := by
  refine F.ok sc_l_program_due (fun vs H Q E h => ?_) (fun cdv A outer s H vs Q E hr h => ?_)
  · obtain ⟨_, _, _, _, _, _, rfl, _⟩ := h
    rfl
  · obtain ⟨p, bv, yv, ts, dB, dY, rfl, tb, ok, hb, hy, zb, mb, my, kB, kG⟩ := h
    refine ⟨_, (pss_cons (ps_set (i := 3) sc_l_program_due.nd rfl (Or.inl rfl) (pe_d D_l_blocks_due (hr.mono (by decide)) (pa_cons (pv 0) (pa_cons (pv 1) pa_nil))))
  (pss_cons (ps_if (pt_cmpR op_notN (pv 3) pe_non (nomark _))
    (pss_one (ps_ret (pe_tup (pa_cons pe_str (pa_cons (pv 3) pa_nil)))))
    pss_nil)
  (pss_cons (ps_set (i := 4) sc_l_program_due.nd rfl (Or.inl rfl) (pe_d D_l_wrong_path (hr.mono (by decide)) (pa_cons (pv 0) (pa_cons (pv 1) (pa_cons (pv 2) pa_nil)))))
  (pss_cons (ps_if (pt_cmpR op_notN (pv 4) pe_non (nomark _))
    (pss_one (ps_ret (pe_tup (pa_cons pe_str (pa_cons (pv 4) pa_nil)))))
    pss_nil)
  (pss_one (ps_ret pe_non)))))), ?_⟩
    refine ⟨_, rfl, _, rfl, bv, dB, p, ts, rfl, tb, ok, hb, zb, mb, fun H1 s1 => ?_⟩
    cases eb : blocksBad ts dB with
    | some i =>
      exact ⟨_, rfl, rfl, _, rfl, iteT ⟨_, rfl, (by show 2 ≤ sizeLine; decide), fun t ht => kB i eb _ _ (s1.trans (same_new _ ht)) (.tup upd_same (.cons (.str _) (.cons (.int _) .nil)))⟩⟩
    | none =>
      obtain ⟨kE, kO⟩ := kG eb
      obtain ⟨xs, hp, ta⟩ := id tb
      have W : WrAt H (.ref p) bv ts dB := ⟨.lst hp ta, hb, ok, eb, zb, mb⟩
      refine ⟨_, rfl, rfl, _, rfl, iteF ⟨_, rfl, _, rfl, _, rfl, .ref p, bv, yv, ts, dB, dY, rfl, W.same s1, hy.same s1, my, fun H2 v s2 wv => ?_⟩⟩
      have s12 := s1.trans s2
      cases er : bodyRead ts (envB dB) dY with
      | ok st =>
        rw [er] at wv
        obtain rfl : v = V.non := wv
        exact ⟨_, rfl, rfl, _, rfl, iteF (kO st er _ s12)⟩
      | error q =>
        rw [er] at wv
        have wv : Tp H2 v (natsD q) := wv
        obtain ⟨a, ys, rfl, ha, ty⟩ := (show Tp H2 v (.tuple (q.map fun i => PyData.int (i : Nat))) from wv).tuple
        exact ⟨_, rfl, rfl, _, rfl, iteT ⟨_, rfl, (by show 2 ≤ sizeLine; decide), fun t ht => kE q er _ _ (s12.trans (same_new _ ht)) (.tup upd_same (.cons (.str _) (.cons (wv.same (same_new _ ht)) .nil)))⟩⟩
def spTellsP (CS CG : Addr) : Sp := fun vs H Q _ => ∃ (x dx sh : Addr) (b y bv yv : V) (ts : List Tab) (dB dY : PyData), vs = [.ref x, .ref sh, bv, yv] ∧ H x = some (.ins CG dx (pgF sh b y)) ∧ ShT CS H sh (tsD ts) ∧ TsOk ts ∧ Tp H b (tupd dB) ∧ Tp H y (tupd dY) ∧ Tp H bv dB ∧ Tp H yv dY ∧ dep dB < 40 ∧ dep dY < 40 ∧ siz dB ≤ 40000 ∧ siz dY ≤ 40000 ∧ ∀ H', Same H H' → Q (.bl true) H'
abbrev s_l_tells_program : Stmt := topS 89
abbrev sc_l_tells_programN : List Str := ["_law_program", "_law_shape", "_law_blocks_here", "_law_body"]
abbrev ps_l_tells_program : List Str := ["_law_program", "_law_shape", "_law_blocks_here", "_law_body"]
theorem sc_l_tells_program : FnScope sc_l_tells_programN ps_l_tells_program (defScope s_l_tells_program) := ⟨rfl, rfl, rfl, by decide +kernel, rfl, by decide +kernel, by decide +kernel⟩
theorem ok_l_tells_program {f : Addr} {fd : FuncData} (F : Fun K "_law_tells_program" "_law_tells_program" s_l_tells_program f fd) (T : Txt K mg CS) (G : TxG K w mg CG CRd PD) (E_Shape : Deq P w K mg base CS 1 ps_Shape_eq (spShSame CS)) (D_l_tupled : Df P w K mg base "_law_tupled" 40 ps_l_tupled (spTupL 40)) (D_l_alike : Df P w K mg base "_law_alike" 40 ps_l_alike (spAlike 40)) : FnOk P w K mg base CX0 41 f fd ps_l_tells_program (spTellsP CS CG) := by
  refine F.ok sc_l_tells_program (fun vs H Q E h => ?_) (fun cdv A outer s H vs Q E hr h => ?_)
  · obtain ⟨_, _, _, _, _, _, _, _, _, _, rfl, _⟩ := h
    rfl
  · obtain ⟨x, dx, sh, b, y, bv, yv, ts, dB, dY, rfl, hx, shA, ok, tb, ty, hb, hy, pb, py, zb, zy, k⟩ := h
    refine ⟨_, (pss_cons (ps_if (PW.pt (pw_or (pt_not (pt_cmpR (op_eqO E_Shape (hr.mono (by decide))) (pe_fld (pv 0) rfl) (pv 1) (nomark _))) (pw_or1 (pt_not (pt_val (pe_d D_l_alike (hr.mono (by decide)) (pa_cons (pe_fld (pv 0) rfl) (pa_cons (pe_d D_l_tupled (hr.mono (by decide)) (pa_cons (pv 2) pa_nil)) pa_nil))))))))
    (pss_one (ps_ret pe_bl))
    pss_nil)
  (pss_one (ps_ret (pe_d D_l_alike (hr.mono (by decide)) (pa_cons (pe_fld (pv 0) rfl) (pa_cons (pe_d D_l_tupled (hr.mono (by decide)) (pa_cons (pv 3) pa_nil)) pa_nil)))))), ?_⟩
    obtain ⟨dsh, tv, hsh, dtv⟩ := id shA
    refine ⟨_, rfl, x, CG, dx, _, _, rfl, hx, G.clG, G.gSh, rfl, _, rfl, ?_⟩
    refine ⟨sh, dsh, _, _, rfl, hsh, .base (.ins hsh T.cl T.c_cls T.c_get T.c_tak T.c_mro), first_same CS, ?_⟩
    refine ⟨H, sh, sh, ts, rfl, Same.refl _, shA, shA, ok, true, rfl, _, rfl, iteF ?_⟩
    obtain ⟨b1, b2⟩ := bd_tupd dB
    obtain ⟨y1, y2⟩ := bd_tupd dY
    refine ⟨_, rfl, x, CG, dx, _, _, rfl, hx, G.clG, G.gBl, rfl, _, rfl, H, bv, dB, rfl, Same.refl _, hb, pb, by omega, fun v' F' H1 g tv' => ?_⟩
    have s1 : Same H H1 := g.same (Same.refl _)
    refine ⟨b, v', tupd dB, rfl, tb.same s1, tv'.same g.fh, by omega, by omega, fun H2 s2 => ⟨_, rfl, iteF ?_⟩⟩
    have s12 := s1.trans s2
    refine ⟨_, rfl, x, CG, dx, _, _, rfl, s12 _ _ hx, G.clG, G.gBo, rfl, _, rfl, H2, yv, dY, rfl, Same.refl _, hy.same s12, py, by omega, fun v2 F3 H3 g3 tv2 => ?_⟩
    have s13 : Same H H3 := s12.trans (g3.same (Same.refl _))
    exact ⟨y, v2, tupd dY, rfl, ty.same s13, tv2.same g3.fh, by omega, by omega, fun H4 s4 => k _ (s13.trans s4)⟩
def spJudged (CS : Addr) : Sp := fun vs H Q _ => ∃ (sh p : Addr) (bv yv : V) (ts : List Tab) (dB dY : PyData), vs = [.ref sh, .ref p, bv, yv] ∧ ShT CS H sh (tsD ts) ∧ TsOk ts ∧ TbAt H p ts ∧ Tp H bv dB ∧ Tp H yv dY ∧ dep dB < 39 ∧ dep dY < 39 ∧ siz dB ≤ 40000 ∧ siz dY ≤ 40000 ∧ mst dB ≤ 100000 ∧ mst dY ≤ 100000 ∧ ∀ H', Same H H' → Q (.bl true) H'
abbrev s_l_judged : Stmt := topS 90
abbrev sc_l_judgedN : List Str := ["_law_shape", "_law_tables_here", "_law_blocks_here", "_law_body", "_law_kept", "_law_due", "_law_found"]
abbrev ps_l_judged : List Str := ["_law_shape", "_law_tables_here", "_law_blocks_here", "_law_body"]
theorem sc_l_judged : FnScope sc_l_judgedN ps_l_judged (defScope s_l_judged) := ⟨rfl, rfl, rfl, by decide +kernel, rfl, by decide +kernel, by decide +kernel⟩
theorem ok_l_judged {f : Addr} {fd : FuncData} (F : Fun K "_law_judged" "_law_judged" s_l_judged f fd) (D_l_copied : Df P w K mg base "_law_copied" 40 ps_l_copied (spCopied 40)) (D_l_alike : Df P w K mg base "_law_alike" 40 ps_l_alike (spAlike 40)) (D_l_program_due : Df P w K mg base "_law_program_due" 14 ps_l_program_due spPDue) (D_l_made : Df P w K mg base "_law_made" 44 ps_l_made (spMadeP CS CG)) (D_l_tells_program : Df P w K mg base "_law_tells_program" 41 ps_l_tells_program (spTellsP CS CG)) : FnOk P w K mg base CX0 45 f fd ps_l_judged (spJudged CS) := by
  refine F.ok sc_l_judged (fun vs H Q E h => ?_) (fun cdv A outer s H vs Q E hr h => ?_)
  · obtain ⟨_, _, _, _, _, _, _, rfl, _⟩ := h
    rfl
  · obtain ⟨sh, p, bv, yv, ts, dB, dY, rfl, shA, ok, tb, hb, hy, pb, py, zb, zy, mb, my, k⟩ := h
    refine ⟨_, (pss_cons (ps_set (i := 4) sc_l_judged.nd rfl (Or.inl rfl) (pe_d D_l_copied (hr.mono (by decide)) (pa_cons (pe_lst (pa_cons (pv 2) (pa_cons (pv 3) pa_nil))) pa_nil)))
  (pss_cons (ps_set (i := 5) sc_l_judged.nd rfl (Or.inl rfl) (pe_d D_l_program_due (hr.mono (by decide)) (pa_cons (pv 1) (pa_cons (pv 2) (pa_cons (pv 3) pa_nil)))))
  (pss_cons (ps_set (i := 6) sc_l_judged.nd rfl (Or.inl rfl) (pe_d D_l_made (hr.mono (by decide)) (pa_cons (pv 0) (pa_cons (pv 2) (pa_cons (pv 3) pa_nil)))))
  (pss_cons (ps_if (pt_not (pt_val (pe_d D_l_alike (hr.mono (by decide)) (pa_cons (pe_lst (pa_cons (pv 2) (pa_cons (pv 3) pa_nil))) (pa_cons (pv 4) pa_nil)))))
    (pss_one (ps_ret pe_bl))
    pss_nil)
  (pss_cons (ps_if (pt_cmpR op_notN (pv 5) pe_non (nomark _))
    (pss_one (ps_ret (pe_d D_l_alike (hr.mono (by decide)) (pa_cons (pv 6) (pa_cons (pv 5) pa_nil)))))
    pss_nil)
  (pss_one (ps_ret (pe_and (pe_cmpR op_eq (pe_ix ix_tup (pv 6) pe_int (fun _ _ => rfl)) pe_str (nomark _)) (pe_one (pe_d D_l_tells_program (hr.mono (by decide)) (pa_cons (pe_ix ix_tup (pv 6) pe_int (fun _ _ => rfl)) (pa_cons (pv 0) (pa_cons (pv 2) (pa_cons (pv 3) pa_nil)))))))))))))), ?_⟩
    have pk : dep (.list [dB, dY]) < 40 := by
      show 1 + max (dep dB) (max (dep dY) 0) < 40
      omega
    have zk : siz (.list [dB, dY]) ≤ 100000 := by
      show 1 + (siz dB + (siz dY + 0)) ≤ 100000
      omega
    refine ⟨_, rfl, _, rfl, (by show 2 ≤ sizeLine; decide), fun l hl => ?_⟩
    have s1 : Same H (upd H l (.lst [bv, yv])) := same_new _ hl
    have tl : Tp (upd H l (.lst [bv, yv])) (.ref l) (.list [dB, dY]) := .lst upd_same (.cons (hb.same s1) (.cons (hy.same s1) .nil))
    generalize upd H l (.lst [bv, yv]) = H1 at *
    refine ⟨H1, .ref l, .list [dB, dY], rfl, Same.refl _, tl, pk, zk, fun v4 F2 H2 g2 t4 => ?_⟩
    have s2 : Same H H2 := s1.trans (g2.same (Same.refl _))
    have t4 : Tp H2 v4 (.list [dB, dY]) := t4.same g2.fh
    refine ⟨_, rfl, _, rfl, _, rfl, p, bv, yv, ts, dB, dY, rfl, tb.same s2, ok, hb.same s2, hy.same s2, zb, mb, my, fun i ei v5 H3 s3 t5 => ?_, fun e0 => ⟨fun q eq v5 H3 s3 t5 => ?_, fun st es H3 s3 => ?_⟩⟩
    · have s03 := s2.trans s3
      obtain ⟨a5, x5, rfl, h5, ta5⟩ := t5.tuple
      refine ⟨_, rfl, _, rfl, _, rfl, .ref sh, bv, yv, dB, dY, rfl, hb.same s03, hy.same s03, by omega, by omega, zb, zy, mb, my, .inr ⟨sh, ts, rfl, shA.same s03, ok, fun j ej v6 H4 s4 t6 => ?_, fun e0 => by rw [ei] at e0; cases e0⟩⟩
      obtain rfl : i = j := by
        rw [ei] at ej
        exact Option.some.inj ej
      have s04 := s03.trans s4
      refine ⟨_, rfl, _, rfl, (by show 2 ≤ sizeLine; decide), fun l2 hl2 => ?_⟩
      have s5 : Same H4 (upd H4 l2 (.lst [bv, yv])) := same_new _ hl2
      have s05 := s04.trans s5
      refine ⟨_, rfl, .ref l2, v4, .list [dB, dY], rfl, .lst upd_same (.cons (hb.same s05) (.cons (hy.same s05) .nil)), t4.same ((s3.trans s4).trans s5), pk, zk, fun H6 s6 => ⟨_, rfl, iteF ?_⟩⟩
      have s06 := s05.trans s6
      refine ⟨_, rfl, rfl, _, rfl, iteT ⟨_, rfl, _, rfl, v6, .ref a5, .tuple [.str "block", .int i], rfl, t6.same (s5.trans s6), t5.same ((s4.trans s5).trans s6), by show 1 + max 0 (max 0 0) < 40; decide, by show 1 + (1 + (1 + 0)) ≤ 100000; decide, fun H7 s7 => k _ (s06.trans s7)⟩⟩
    · have s03 := s2.trans s3
      obtain ⟨a5, x5, rfl, h5, ta5⟩ := t5.tuple
      obtain ⟨pq, zq⟩ := prog_bd (body_err eq)
      refine ⟨_, rfl, _, rfl, _, rfl, .ref sh, bv, yv, dB, dY, rfl, hb.same s03, hy.same s03, by omega, by omega, zb, zy, mb, my, .inr ⟨sh, ts, rfl, shA.same s03, ok, (fun j ej => by rw [e0] at ej; cases ej), fun _ => ⟨fun q2 eq2 v6 H4 s4 t6 => ?_, (fun st es => by rw [eq] at es; cases es)⟩⟩⟩
      obtain rfl : q = q2 := by
        rw [eq] at eq2
        exact Except.error.inj eq2
      have s04 := s03.trans s4
      refine ⟨_, rfl, _, rfl, (by show 2 ≤ sizeLine; decide), fun l2 hl2 => ?_⟩
      have s5 : Same H4 (upd H4 l2 (.lst [bv, yv])) := same_new _ hl2
      have s05 := s04.trans s5
      refine ⟨_, rfl, .ref l2, v4, .list [dB, dY], rfl, .lst upd_same (.cons (hb.same s05) (.cons (hy.same s05) .nil)), t4.same ((s3.trans s4).trans s5), pk, zk, fun H6 s6 => ⟨_, rfl, iteF ?_⟩⟩
      have s06 := s05.trans s6
      refine ⟨_, rfl, rfl, _, rfl, iteT ⟨_, rfl, _, rfl, v6, .ref a5, .tuple [.str "program", natsD q], rfl, t6.same (s5.trans s6), t5.same ((s4.trans s5).trans s6), pq, zq, fun H7 s7 => k _ (s06.trans s7)⟩⟩
    · have s03 := s2.trans s3
      refine ⟨_, rfl, _, rfl, _, rfl, .ref sh, bv, yv, dB, dY, rfl, hb.same s03, hy.same s03, by omega, by omega, zb, zy, mb, my, .inr ⟨sh, ts, rfl, shA.same s03, ok, (fun j ej => by rw [e0] at ej; cases ej), fun _ => ⟨(fun q2 eq2 => by rw [es] at eq2; cases eq2), fun st2 es2 tp x dx b y H4 s4 htp hx tbl tbo => ?_⟩⟩⟩
      have s04 := s03.trans s4
      refine ⟨_, rfl, _, rfl, (by show 2 ≤ sizeLine; decide), fun l2 hl2 => ?_⟩
      have s5 : Same H4 (upd H4 l2 (.lst [bv, yv])) := same_new _ hl2
      have s05 := s04.trans s5
      refine ⟨_, rfl, .ref l2, v4, .list [dB, dY], rfl, .lst upd_same (.cons (hb.same s05) (.cons (hy.same s05) .nil)), t4.same ((s3.trans s4).trans s5), pk, zk, fun H6 s6 => ⟨_, rfl, iteF ?_⟩⟩
      have s06 := s05.trans s6
      have s46 := s5.trans s6
      refine ⟨_, rfl, rfl, _, rfl, iteF ?_⟩
      refine ⟨_, rfl, tp, _, 0, _, rfl, rfl, .inl (.inl (s46 _ _ htp)), ix0, rfl, _, rfl, ifT (decide_eq_true rfl) ?_⟩
      refine ⟨_, rfl, tp, _, 1, _, rfl, rfl, .inl (.inl (s46 _ _ htp)), ix1, _, rfl, _, rfl, _, rfl, ?_⟩
      exact ⟨x, dx, sh, b, y, bv, yv, ts, dB, dY, rfl, s46 _ _ hx, shA.same s06, ok, tbl.same s46, tbo.same s46, hb.same s06, hy.same s06, by omega, by omega, zb, zy, fun H7 s7 => k _ (s06.trans s7)⟩
end
end Fm

/-! ## K08LS -/
set_option Elab.async false
set_option maxRecDepth 100000
set_option maxHeartbeats 8000000
namespace Fm
open PySem L2
theorem same_l {G F : Hp} {u : Addr} {a : HO} (s : Same G F) (h : F u = some a) : Same (upd G u a) F := fun c o e => by
  by_cases z : c = u
  · rw [z, upd_same] at e
    rw [z, h]
    exact e
  · rw [upd_ne z] at e
    exact s c o e
theorem same_r {G F : Hp} {u : Addr} {a : HO} (s : Same G F) (h : G u = none) : Same G (upd F u a) := fun c o e => by
  rw [upd_ne (ne_of_none e h)]
  exact s c o e
/-- a drawn block -/
structure BOk (q : Str × List Str × List Str) : Prop where
  nm : isNm q.1 = true
  ks : ∀ f ∈ q.2.1, isNm f = true
  ss : ∀ f ∈ q.2.2, isNm f = true
  lk : q.2.1.length ≤ 3
  ls : q.2.2.length ≤ 3
section
variable {P : Program} {w : World} {K : PySem.W.Frag} {mg : Str → Option Value} {base : Heap} {CS CG CRd PD CN CBP CBB CBS : Addr}
def spBlocks : Sp := fun vs H Q _ => ∃ (F : Hp) (b p : Addr) (ts : List Tab) (m : Int), vs = [.ref b, .ref p, .int m] ∧ Bag F H b ∧ TbAt F p ts ∧ TsOk ts ∧ 1 ≤ m ∧ m ≤ 6 ∧ ∀ (l : Addr) (F' H' : Hp) (bs : List (Str × List Str × List Str)), Bag F' H' b → Same F F' → Tp F' (.ref l) (.list (bs.map blkT)) → (∀ q ∈ bs, BOk q) → (bs.length : Int) = m → Q (.ref l) H'
abbrev s_l_blocks : Stmt := topS 55
abbrev sc_l_blocksN : List Str := ["_law_bag_here", "_law_tables_here", "_law_many", "_law_name_here", "_law_fields", "_law_taken", "_law_blocks_here", "_law_k", "_law_size", "_law_names", "_law_j"]
abbrev ps_l_blocks : List Str := ["_law_bag_here", "_law_tables_here", "_law_many"]
theorem sc_l_blocks : FnScope sc_l_blocksN ps_l_blocks (defScope s_l_blocks) := ⟨rfl, rfl, rfl, by decide +kernel, rfl, by decide +kernel, by decide +kernel⟩
theorem ok_l_blocks {f : Addr} {fd : FuncData} (F : Fun K "_law_blocks" "_law_blocks" s_l_blocks f fd) (T : Txt K mg CS) (D_l_pick : Df P w K mg base "_law_pick" 1 ps_l_pick spPick) (D_l_name : Df P w K mg base "_law_name" 2 ps_l_name spName) : FnOk P w K mg base CX0 3 f fd ps_l_blocks spBlocks := by
  refine F.ok sc_l_blocks (fun vs H Q E h => ?_) (fun cdv A outer s H vs Q E hr h => ?_)
  · obtain ⟨_, _, _, _, _, rfl, _⟩ := h
    rfl
  · obtain ⟨F0, b, p, ts, m, rfl, B, tb, ok, m1, m6, k⟩ := h
    refine ⟨_, (pss_cons (ps_setLc (i := 5) (own := [("_law_name_here", 3), ("_law_fields", 4)]) (g := gTup K 2 (gCons (gName 3) (gCons (gName 4) gNil))) (tt := tYes) (by rfl) sc_l_blocks.nd rfl rfl (sw_true rfl rfl rfl (by decide +kernel)) (pi_list (pv 1)) (blkOk_by (own := [("_law_name_here", 3), ("_law_fields", 4)]) (N := sc_l_blocksN) (sc := defScope s_l_blocks) (by decide +kernel)) (fun _ _ _ _ _ => pg_tup (by rfl) (pgs_cons (pg_name (i := 3) sc_l_blocks.nd rfl (Or.inl rfl)) (pgs_cons (pg_name (i := 4) sc_l_blocks.nd rfl (Or.inl rfl)) pgs_nil))) (fun _ _ _ _ _ => pts_nil) (fun _ _ _ _ _ => (pv 3)))
  (pss_cons (ps_set (i := 6) sc_l_blocks.nd rfl (Or.inl rfl) (pe_lst pa_nil))
  (pss_cons (ps_for PassesOwn.never rfl (pi_range1 (by rfl) T.n_range (pa_cons (pv 2) pa_nil)) (pg_name (i := 7) sc_l_blocks.nd rfl (Or.inl rfl))
    (pss_cons (ps_set (i := 3) sc_l_blocks.nd rfl (Or.inl rfl) (pe_d D_l_name (hr.mono (by decide)) (pa_cons (pv 0) (pa_cons (pv 5) pa_nil))))
    (pss_cons (ps_set (i := 8) sc_l_blocks.nd rfl (Or.inl rfl) (pe_ix ix_list (pe_lst (pa_cons pe_int (pa_cons pe_int (pa_cons pe_int (pa_cons pe_int (pa_cons pe_int pa_nil)))))) (pe_d D_l_pick (hr.mono (by decide)) (pa_cons (pv 0) (pa_cons pe_int pa_nil))) (fun _ _ => rfl)))
    (pss_cons (ps_set (i := 9) sc_l_blocks.nd rfl (Or.inl rfl) (pe_lst pa_nil))
    (pss_cons (ps_for PassesOwn.never rfl (pi_range1 (by rfl) T.n_range (pa_cons (pe_op op_add (pv 8) (pe_ix ix_list (pe_lst (pa_cons pe_int (pa_cons pe_int (pa_cons pe_int (pa_cons pe_int pa_nil))))) (pe_d D_l_pick (hr.mono (by decide)) (pa_cons (pv 0) (pa_cons pe_int pa_nil))) (fun _ _ => rfl))) pa_nil)) (pg_name (i := 10) sc_l_blocks.nd rfl (Or.inl rfl))
      (pss_one (ps_expr (pe_d D_l_name (hr.mono (by decide)) (pa_cons (pv 0) (pa_cons (pv 9) pa_nil))))))
    (pss_one (ps_expr (pe_bm PySem.F.plainAttrs_list PySem.F.slot_list_append PySem.F.type_list_append mt_append (pv 6) (pa_cons (pe_tup (pa_cons (pv 3) (pa_cons (pe_callTy call_tuple_of (by rfl) T.n_tuple (by decide +kernel) (pa_cons (pe_slice sl_list (pv 9) po_none (po_some (pv 8))) pa_nil)) (pa_cons (pe_callTy call_tuple_of (by rfl) T.n_tuple (by decide +kernel) (pa_cons (pe_slice sl_list (pv 9) (po_some (pv 8)) po_none) pa_nil)) pa_nil)))) pa_nil)))))))))
  (pss_one (ps_ret (pv 6)))))), ?_⟩
    obtain ⟨xs, hp, ta⟩ := id tb
    have lx : xs.length = ts.length := by rw [ta.len, List.length_map]
    have lo := ok.lo
    have hi := ok.hi
    refine ⟨_, rfl, p, rfl, ⟨xs, .inl (.inl (B.fh _ _ hp))⟩, fun D hD => ?_⟩
    have fD : F0 D = none := B.fh.free hD
    refine lc_it walk_list (fun i H' => Bag (upd F0 D (.lst (((ts.map (·.1)).take i).map V.str))) H' b) (B.new _ hD) (fun i H' _ z => .inl (.inl (z.fh _ _ (same_new _ fD _ _ hp)))) ?_ ?_
    · rintro i x H2 H3 hi2 B2 ⟨rfl, hxi⟩
      obtain ⟨c, hc, hcv⟩ := ta.at hxi
      rw [List.getElem?_map] at hc
      obtain ⟨t, ht, rfl⟩ := Option.map_eq_some_iff.mp hc
      obtain ⟨e, r, rfl, he, hr2⟩ := tab_in hcv
      have s4 : Same F0 H3 := (same_new _ fD).trans B2.fh
      refine ⟨e, _, rfl, .inl (.inl (s4 _ _ he)), rfl, _, _, rfl, _, _, rfl, rfl, rfl, _, rfl, _, B2.fh _ _ upd_same, ?_, ?_⟩
      · rw [List.length_map]
        exact Nat.lt_of_le_of_lt (show ((ts.map (·.1)).take i).length ≤ 100 by rw [List.length_take, List.length_map]; omega) (by decide)
      · have B3 := B2.put (.lst (((ts.map (·.1)).take i).map V.str ++ [V.str t.1])) upd_same
        rw [upd_upd] at B3
        rw [List.take_add_one, List.getElem?_map, ht]
        show Bag (upd F0 D (.lst (((ts.map (·.1)).take i ++ [t.1]).map V.str))) _ b
        rw [List.map_append]
        exact B3
    rintro H2 B2
    rw [lx, ← List.length_map (f := (·.1)) (as := ts), List.take_length] at B2
    refine ⟨Nat.zero_le _, fun l hl => ?_⟩
    have B3 := B2.new (.lst []) hl
    have Fl : (upd F0 D (.lst ((ts.map (·.1)).map V.str))) l = none := B2.fh.free hl
    have nDl : D ≠ l := fun z => by rw [← z, upd_same] at Fl; cases Fl
    have F0l : F0 l = none := by rw [upd_ne (Ne.symm nDl)] at Fl; exact Fl
    refine ⟨_, rfl, _, rfl, by omega, by omega, ?_⟩
    refine for_range (lo := 0) (n := m.toNat) (fun i σ H' => ∃ (G F' : Hp) (tk : List Str) (bs : List (Str × List Str × List Str)) (xs : List V) (v3 v4 v7 v8 v9 v10 : Option V), σ = [some (.ref b), some (.ref p), some (.int m), v3, v4, some (.ref D), some (.ref l), v7, v8, v9, v10] ∧ Bag F' H' b ∧ Same F0 G ∧ Same G F' ∧ G D = none ∧ G l = none ∧ F' D = some (.lst (tk.map V.str)) ∧ F' l = some (.lst xs) ∧ tk.length ≤ 5 + i ∧ TpAll G xs (bs.map blkT) ∧ bs.length = i ∧ ∀ q ∈ bs, BOk q) ?_ ?_ ?_
    · refine ⟨F0, _, ts.map (·.1), [], [], _, _, _, _, _, _, rfl, B3, Same.refl _, same_r (same_r (Same.refl _) fD) F0l, fD, F0l, by rw [upd_ne nDl, upd_same], upd_same, by rw [List.length_map]; omega, .nil, rfl, fun _ m => by cases m⟩
    · rintro i σ H4 hi4 ⟨G, F4, tk, bs, ys, v3, v4, v7, v8, v9, v10, rfl, B4, sG, sF, gD, gl, f4D, f4l, ltk, tb4, lb, okb⟩
      refine ⟨_, rfl, _, rfl, F4, b, D, tk, rfl, B4, f4D, by omega, fun n H5 gn nn B5 => ?_⟩
      have f5D : (upd F4 D (.lst ((tk ++ [n]).map V.str))) D = some (.lst ((tk ++ [n]).map V.str)) := upd_same
      have f5l : (upd F4 D (.lst ((tk ++ [n]).map V.str))) l = some (.lst ys) := by rw [upd_ne (Ne.symm nDl)]; exact f4l
      have sF5 : Same G (upd F4 D (.lst ((tk ++ [n]).map V.str))) := same_r sF gD
      generalize upd F4 D (.lst ((tk ++ [n]).map V.str)) = F5 at *
      refine ⟨(by show 5 ≤ sizeLine; decide), fun d hd => ⟨_, rfl, _, b, 5, rfl, by decide, by decide, B5.new _ hd, fun r H6 r0 r1 B6 => ?_⟩⟩
      obtain ⟨v, hv, hvm⟩ := at_mem (xs := ([1, 2, 1, 0, 3] : List Int).map V.int) r0 r1
      obtain ⟨z, hz, rfl⟩ := List.mem_map.mp hvm
      have z03 : 0 ≤ z ∧ z ≤ 3 := by
        have all : ∀ z ∈ ([1, 2, 1, 0, 3] : List Int), 0 ≤ z ∧ z ≤ 3 := by decide
        exact all z hz
      have B7 := bag_sub (F := F5) (same_r (Same.refl _) (B5.fh.free hd)) B6
      refine ⟨d, _, _, _, rfl, rfl, .inl (.inl (B6.fh _ _ upd_same)), hv, ?_⟩
      refine ⟨Nat.zero_le _, fun q hq => ?_⟩
      have F5q : F5 q = none := B7.fh.free hq
      have Gq : G q = none := sF5.free F5q
      have nqD : q ≠ D := fun z => by rw [z, f5D] at F5q; cases F5q
      have nql : q ≠ l := fun z => by rw [z, f5l] at F5q; cases F5q
      have B8 := B7.new (.lst []) hq
      have f8q : (upd F5 q (.lst [])) q = some (.lst []) := upd_same
      have f8D : (upd F5 q (.lst [])) D = some (.lst ((tk ++ [n]).map V.str)) := by rw [upd_ne (Ne.symm nqD)]; exact f5D
      have f8l : (upd F5 q (.lst [])) l = some (.lst ys) := by rw [upd_ne (Ne.symm nql)]; exact f5l
      have sF8 : Same G (upd F5 q (.lst [])) := same_r sF5 Gq
      generalize upd F5 q (.lst []) = F8 at *
      generalize upd H6 q (.lst []) = H8 at *
      refine ⟨_, rfl, (by show 4 ≤ sizeLine; decide), fun d2 hd2 => ⟨_, rfl, _, b, 4, rfl, by decide, by decide, B8.new _ hd2, fun r2 H9 r3 r4 B9 => ?_⟩⟩
      obtain ⟨v2, hv2, hvm2⟩ := at_mem (xs := ([1, 2, 1, 3] : List Int).map V.int) r3 r4
      obtain ⟨z2, hz2, rfl⟩ := List.mem_map.mp hvm2
      have z13 : 1 ≤ z2 ∧ z2 ≤ 3 := by
        have all : ∀ z ∈ ([1, 2, 1, 3] : List Int), 1 ≤ z ∧ z ≤ 3 := by decide
        exact all z2 hz2
      have h9d : H9 d2 = some (.lst (([1, 2, 1, 3] : List Int).map V.int)) := B9.fh _ _ upd_same
      have B10 := bag_sub (F := F8) (same_r (Same.refl _) (B8.fh.free hd2)) B9
      refine ⟨d2, _, _, _, rfl, rfl, .inl (.inl h9d), hv2, _, _, rfl, rfl, _, rfl, by omega, by omega, ?_⟩
      refine for_range (lo := 0) (n := (z + z2).toNat) (fun j σ H' => ∃ (F' : Hp) (fs : List Str) (v10 : Option V), σ = [some (.ref b), some (.ref p), some (.int m), some (.str n), v4, some (.ref D), some (.ref l), some (.int (0 + (i : Nat))), some (.int z), some (.ref q), v10] ∧ Bag F' H' b ∧ Same G F' ∧ F' D = some (.lst ((tk ++ [n]).map V.str)) ∧ F' l = some (.lst ys) ∧ F' q = some (.lst (fs.map V.str)) ∧ fs.length = j ∧ ∀ f ∈ fs, isNm f = true) ?_ ?_ ?_
      · exact ⟨F8, [], _, rfl, B10, sF8, f8D, f8l, f8q, rfl, fun _ m => by cases m⟩
      · rintro j σ H10 hj ⟨F10, fs, v10, rfl, B11, sF10, f10D, f10l, f10q, lf, okf⟩
        refine ⟨_, rfl, _, rfl, F10, b, q, fs, rfl, B11, f10q, by omega, fun f H11 gf nf B12 => ?_⟩
        refine ⟨_, fs ++ [f], _, rfl, B12, same_r sF10 Gq, by rw [upd_ne (Ne.symm nqD)]; exact f10D, by rw [upd_ne (Ne.symm nql)]; exact f10l, upd_same, by rw [List.length_append, lf]; rfl, fun g mg => ?_⟩
        rcases List.mem_append.mp mg with mg | mg
        · exact okf g mg
        · rw [List.mem_singleton.mp mg]
          exact gf
      rintro σ H10 ⟨F10, fs, v10, rfl, B11, sF10, f10D, f10l, f10q, lf, okf⟩
      have h10l := B11.fh _ _ f10l
      have h10q := B11.fh _ _ f10q
      refine ⟨_, rfl, .inl ⟨rfl, _, .inl (.inl h10l)⟩, ?_⟩
      obtain ⟨zn, rfl⟩ : ∃ zn : Nat, z = (zn : Int) := ⟨z.toNat, by omega⟩
      have lfz : zn ≤ (fs.map V.str).length := by rw [List.length_map]; omega
      have GD := gD
      refine ⟨_, rfl, _, rfl, _, rfl, _, rfl, q, _, rfl, .inl (.inl h10q), fun u1 hu1 => ?_⟩
      have Ba := bag_junk B11 (.lst (cutV (fs.map V.str) none (some ((zn : Nat) : Int)))) hu1
      rw [cutV_to] at Ba ⊢
      have hqa := same_new (.lst ((fs.map V.str).take zn)) hu1 _ _ h10q
      have hla := same_new (.lst ((fs.map V.str).take zn)) hu1 _ _ h10l
      refine ⟨u1, _, rfl, .inl ⟨.inl (.inl upd_same), fun u2 hu2 => ?_⟩⟩
      generalize upd H10 u1 (.lst ((fs.map V.str).take zn)) = Ha at *
      have Bb := Ba.new (.tup ((fs.map V.str).take zn)) hu2
      have hqb := same_new (.tup ((fs.map V.str).take zn)) hu2 _ _ hqa
      have hlb := same_new (.tup ((fs.map V.str).take zn)) hu2 _ _ hla
      have F10u2 : F10 u2 = none := Ba.fh.free hu2
      have Gu2 : G u2 = none := sF10.free F10u2
      have n2D : D ≠ u2 := fun z => by rw [← z, f10D] at F10u2; cases F10u2
      have n2l : l ≠ u2 := fun z => by rw [← z, f10l] at F10u2; cases F10u2
      have sGa : Same G (upd G u2 (.tup ((fs.map V.str).take zn))) := same_new _ Gu2
      have sFa : Same (upd G u2 (.tup ((fs.map V.str).take zn))) (upd F10 u2 (.tup ((fs.map V.str).take zn))) := same_l (same_r sF10 Gu2) upd_same
      have GaD : (upd G u2 (.tup ((fs.map V.str).take zn))) D = none := by rw [upd_ne n2D]; exact gD
      have Gal : (upd G u2 (.tup ((fs.map V.str).take zn))) l = none := by rw [upd_ne n2l]; exact gl
      have FaD : (upd F10 u2 (.tup ((fs.map V.str).take zn))) D = some (.lst ((tk ++ [n]).map V.str)) := by rw [upd_ne n2D]; exact f10D
      have Fal : (upd F10 u2 (.tup ((fs.map V.str).take zn))) l = some (.lst ys) := by rw [upd_ne n2l]; exact f10l
      have Gau : (upd G u2 (.tup ((fs.map V.str).take zn))) u2 = some (.tup ((fs.map V.str).take zn)) := upd_same
      generalize upd G u2 (.tup ((fs.map V.str).take zn)) = Ga at *
      generalize upd F10 u2 (.tup ((fs.map V.str).take zn)) = Fa at *
      generalize upd Ha u2 (.tup ((fs.map V.str).take zn)) = Hb at *
      refine ⟨_, rfl, _, rfl, _, rfl, q, _, rfl, .inl (.inl hqb), fun u3 hu3 => ?_⟩
      have Bc := bag_junk Bb (.lst (cutV (fs.map V.str) (some ((zn : Nat) : Int)) none)) hu3
      rw [cutV_from _ _ lfz] at Bc ⊢
      have hlc := same_new (.lst ((fs.map V.str).drop zn)) hu3 _ _ hlb
      refine ⟨u3, _, rfl, .inl ⟨.inl (.inl upd_same), fun u4 hu4 => ?_⟩⟩
      generalize upd Hb u3 (.lst ((fs.map V.str).drop zn)) = Hc at *
      have Bd := Bc.new (.tup ((fs.map V.str).drop zn)) hu4
      have hld := same_new (.tup ((fs.map V.str).drop zn)) hu4 _ _ hlc
      have Fau4 : Fa u4 = none := Bc.fh.free hu4
      have Gau4 : Ga u4 = none := sFa.free Fau4
      have n4D : D ≠ u4 := fun z => by rw [← z, FaD] at Fau4; cases Fau4
      have n4l : l ≠ u4 := fun z => by rw [← z, Fal] at Fau4; cases Fau4
      have sGb : Same Ga (upd Ga u4 (.tup ((fs.map V.str).drop zn))) := same_new _ Gau4
      have sFb : Same (upd Ga u4 (.tup ((fs.map V.str).drop zn))) (upd Fa u4 (.tup ((fs.map V.str).drop zn))) := same_l (same_r sFa Gau4) upd_same
      have GbD : (upd Ga u4 (.tup ((fs.map V.str).drop zn))) D = none := by rw [upd_ne n4D]; exact GaD
      have Gbl : (upd Ga u4 (.tup ((fs.map V.str).drop zn))) l = none := by rw [upd_ne n4l]; exact Gal
      have FbD : (upd Fa u4 (.tup ((fs.map V.str).drop zn))) D = some (.lst ((tk ++ [n]).map V.str)) := by rw [upd_ne n4D]; exact FaD
      have Fbl : (upd Fa u4 (.tup ((fs.map V.str).drop zn))) l = some (.lst ys) := by rw [upd_ne n4l]; exact Fal
      have Gbu : (upd Ga u4 (.tup ((fs.map V.str).drop zn))) u4 = some (.tup ((fs.map V.str).drop zn)) := upd_same
      generalize upd Ga u4 (.tup ((fs.map V.str).drop zn)) = Gb at *
      generalize upd Fa u4 (.tup ((fs.map V.str).drop zn)) = Fb at *
      generalize upd Hc u4 (.tup ((fs.map V.str).drop zn)) = Hd at *
      refine ⟨(by show 3 ≤ sizeLine; decide), fun e he => ?_⟩
      have Be := Bd.new (.tup [.str n, .ref u2, .ref u4]) he
      have hle := same_new (.tup [.str n, .ref u2, .ref u4]) he _ _ hld
      have Fbe : Fb e = none := Bd.fh.free he
      have Gbe : Gb e = none := sFb.free Fbe
      have n5D : D ≠ e := fun z => by rw [← z, FbD] at Fbe; cases Fbe
      have n5l : l ≠ e := fun z => by rw [← z, Fbl] at Fbe; cases Fbe
      have sGc : Same Gb (upd Gb e (.tup [.str n, .ref u2, .ref u4])) := same_new _ Gbe
      have sFc : Same (upd Gb e (.tup [.str n, .ref u2, .ref u4])) (upd Fb e (.tup [.str n, .ref u2, .ref u4])) := same_l (same_r sFb Gbe) upd_same
      have GcD : (upd Gb e (.tup [.str n, .ref u2, .ref u4])) D = none := by rw [upd_ne n5D]; exact GbD
      have Gcl : (upd Gb e (.tup [.str n, .ref u2, .ref u4])) l = none := by rw [upd_ne n5l]; exact Gbl
      have FcD : (upd Fb e (.tup [.str n, .ref u2, .ref u4])) D = some (.lst ((tk ++ [n]).map V.str)) := by rw [upd_ne n5D]; exact FbD
      have Fcl : (upd Fb e (.tup [.str n, .ref u2, .ref u4])) l = some (.lst ys) := by rw [upd_ne n5l]; exact Fbl
      have Gce : (upd Gb e (.tup [.str n, .ref u2, .ref u4])) e = some (.tup [.str n, .ref u2, .ref u4]) := upd_same
      generalize upd Gb e (.tup [.str n, .ref u2, .ref u4]) = Gc at *
      generalize upd Fb e (.tup [.str n, .ref u2, .ref u4]) = Fc at *
      generalize upd Hd e (.tup [.str n, .ref u2, .ref u4]) = He at *
      have lys : ys.length = i := by rw [tb4.len, List.length_map]; exact lb
      refine ⟨l, _, _, rfl, rfl, hle, Nat.lt_of_le_of_lt (show ys.length ≤ 100 by omega) (by decide), ?_⟩
      have Bf := Be.put (.lst (ys ++ [.ref e])) Fcl
      have tnew : Tp Gc (.ref e) (blkT (n, fs.take zn, fs.drop zn)) := .tup Gce (.cons (.str n) (.cons (.tup ((sGb.trans sGc) _ _ Gau) (by rw [← List.map_take]; exact TpAll.strs _)) (.cons (.tup (sGc _ _ Gbu) (by rw [← List.map_drop]; exact TpAll.strs _)) .nil)))
      refine ⟨Gc, _, tk ++ [n], bs ++ [(n, fs.take zn, fs.drop zn)], ys ++ [.ref e], _, _, _, _, _, _, rfl, Bf, ((sG.trans sGa).trans sGb).trans sGc, same_r sFc Gcl, GcD, Gcl, by rw [upd_ne nDl]; exact FcD, upd_same, by rw [List.length_append]; show tk.length + 1 ≤ 5 + (i + 1); omega, ?_, by rw [List.length_append, lb]; rfl, fun w hw => ?_⟩
      · rw [List.map_append]
        exact (tb4.same ((sGa.trans sGb).trans sGc)).snoc tnew
      · rcases List.mem_append.mp hw with hw | hw
        · exact okb w hw
        · rw [List.mem_singleton.mp hw]
          refine ⟨gn, fun g mg => okf g (List.mem_of_mem_take mg), fun g mg => okf g (List.mem_of_mem_drop mg), ?_, ?_⟩
          · show (fs.take zn).length ≤ 3
            rw [List.length_take]
            omega
          · show (fs.drop zn).length ≤ 3
            rw [List.length_drop]
            omega
    · rintro σ H4 ⟨G, F4, tk, bs, ys, v3, v4, v7, v8, v9, v10, rfl, B4, sG, sF, gD, gl, f4D, f4l, ltk, tb4, lb, okb⟩
      exact ⟨_, rfl, k l _ H4 bs B4 (sG.trans sF) (.lst f4l (tb4.same sF)) okb (by omega)⟩
end
end Fm

/-! ## K08LT -/
set_option Elab.async false
set_option maxRecDepth 100000
set_option maxHeartbeats 8000000
namespace Fm
open PySem L2
mutual
/-- all texts of a tree -/
def txtD : PyData → List Str
  | .str s => [s]
  | .list ds => txtL ds
  | .tuple ds => txtL ds
  | _ => []
def txtL : List PyData → List Str
  | [] => []
  | d :: ds => txtD d ++ txtL ds
end
theorem txtL_app : ∀ a b : List PyData, txtL (a ++ b) = txtL a ++ txtL b
  | [], b => rfl
  | d :: a, b => by
    show txtD d ++ txtL (a ++ b) = (txtD d ++ txtL a) ++ txtL b
    rw [txtL_app a b, List.append_assoc]
theorem txt_row {d : PyData} (h : isRowD d = true) : txtD d = txtL (partsD d) := by
  cases d <;> first | rfl | cases h
mutual
theorem txt_len : ∀ d : PyData, (txtD d).length ≤ siz d
  | .str s => Nat.le_refl _
  | .list ds => Nat.le_trans (txtL_len ds) (Nat.le_add_left _ _)
  | .tuple ds => Nat.le_trans (txtL_len ds) (Nat.le_add_left _ _)
  | .none => Nat.zero_le _
  | .bool _ => Nat.zero_le _
  | .int _ => Nat.zero_le _
  | .dict _ => Nat.zero_le _
theorem txtL_len : ∀ ds : List PyData, (txtL ds).length ≤ sizL ds
  | [] => Nat.zero_le _
  | d :: ds => by
    show (txtD d ++ txtL ds).length ≤ siz d + sizL ds
    rw [List.length_append]
    have := txt_len d
    have := txtL_len ds
    omega
end
mutual
theorem txt_mst : ∀ (d : PyData) (s : Str), s ∈ txtD d → s.length ≤ mst d
  | .str z, s, h => by
    rw [List.mem_singleton.mp (show s ∈ [z] from h)]
    exact Nat.le_refl _
  | .list ds, s, h => txtL_mst ds s h
  | .tuple ds, s, h => txtL_mst ds s h
  | .none, _, h => by cases h
  | .bool _, _, h => by cases h
  | .int _, _, h => by cases h
  | .dict _, _, h => by cases h
theorem txtL_mst : ∀ (ds : List PyData) (s : Str), s ∈ txtL ds → s.length ≤ mstL ds
  | [], _, h => by cases h
  | d :: ds, s, h => by
    show s.length ≤ max (mst d) (mstL ds)
    rcases List.mem_append.mp (show s ∈ txtD d ++ txtL ds from h) with h | h
    · exact Nat.le_trans (txt_mst d s h) (Nat.le_max_left _ _)
    · exact Nat.le_trans (txtL_mst ds s h) (Nat.le_max_right _ _)
end
section
variable {P : Program} {w : World} {K : PySem.W.Frag} {mg : Str → Option Value} {base : Heap} {CS CG CRd PD CN CBP CBB CBS : Addr}
def spAllN (n : Nat) : Sp := fun vs H Q _ => ∃ (F : Hp) (v : V) (d : PyData), vs = [v] ∧ Same F H ∧ Tp F v d ∧ dep d < n ∧ siz d ≤ 100000 ∧ ∀ l F' H', Grow F H F' H' → F' l = some (.lst ((txtD d).map V.str)) → Q (.ref l) H'
abbrev s_l_all_names : Stmt := topS 91
abbrev sc_l_all_namesN : List Str := ["_law_thing", "_law_found", "_law_part"]
abbrev ps_l_all_names : List Str := ["_law_thing"]
theorem sc_l_all_names : FnScope sc_l_all_namesN ps_l_all_names (defScope s_l_all_names) := ⟨rfl, rfl, rfl, by decide +kernel, rfl, by decide +kernel, by decide +kernel⟩
theorem ok_l_all_names {f : Addr} {fd : FuncData} (F : Fun K "_law_all_names" "_law_all_names" s_l_all_names f fd) (T : Txt K mg CS) (hm : mg "_law_all_names" = some (.ref f)) (hb : Binds K fd ps_l_all_names []) : ∀ n, FnOk P w K mg base CX0 n f fd ps_l_all_names (spAllN n)
  | 0 => fn_no fun vs H Q E h => by
    obtain ⟨_, _, d, _, _, _, hd, _⟩ := h
    exact absurd hd (Nat.not_lt_zero _)
  | n + 1 => by
    have D_l_all_names : Df P w K mg base "_law_all_names" n ps_l_all_names (spAllN n) := ⟨f, fd, ok_l_all_names F T hm hb n, hm, F.kp, hb⟩
    refine F.ok sc_l_all_names (fun vs H Q E h => ?_) (fun cdv A outer s H vs Q E hr h => ?_)
    · obtain ⟨_, _, _, rfl, _⟩ := h
      rfl
    · obtain ⟨F0, v, d, rfl, sF, hv, hd, hz, k⟩ := h
      refine ⟨_, (pss_cons (ps_set (i := 1) sc_l_all_names.nd rfl (Or.inl rfl) (pe_lst pa_nil))
  (Evl.pss_cut (ps_if (pt_val (pe_callB call_isiT (by rfl) T.n_isinstance (by decide +kernel) (pa_cons (pv 0) (pa_cons (pe_tup (pa_cons (pe_bltn (v := .ty "list") (by rfl) T.n_list (by decide +kernel) rfl) (pa_cons (pe_bltn (v := .ty "tuple") (by rfl) T.n_tuple (by decide +kernel) rfl) pa_nil))) pa_nil))))
    (pss_one (ps_for PassesOwn.never rfl (pi_any (pv 0)) (pg_name (i := 2) sc_l_all_names.nd rfl (Or.inl rfl))
      (pss_one (ps_expr (pe_bm PySem.F.plainAttrs_list PySem.F.slot_list_extend PySem.F.type_list_extend mt_extend (pv 1) (pa_cons (pe_d D_l_all_names hr (pa_cons (pv 2) pa_nil)) pa_nil))))))
    (pss_one (ps_if (pt_val (pe_callB call_isi (by rfl) T.n_isinstance (by decide +kernel) (pa_cons (pv 0) (pa_cons (pe_bltn (v := .ty "str") (by rfl) T.n_str (by decide +kernel) rfl) pa_nil))))
      (pss_one (ps_expr (pe_bm PySem.F.plainAttrs_list PySem.F.slot_list_append PySem.F.type_list_append mt_append (pv 1) (pa_cons (pv 0) pa_nil))))
      pss_nil)))
  (pss_one (ps_ret (pv 1))))), ?_⟩
      refine ⟨Nat.zero_le _, fun L hL => ?_⟩
      have ac0 : Acc F0 H L F0 (upd H L (.lst [])) [] := Acc.start sF hL
      generalize upd H L (.lst []) = H1 at *
      refine ⟨fun σ' H' => ∃ v2 F2, σ' = [some v, some (.ref L), v2] ∧ Acc F0 H L F2 H' ((txtD d).map V.str), ?_, ?_⟩
      · refine ⟨_, rfl, (by show 2 ≤ sizeLine; decide), fun tp htp => ?_⟩
        have up : (upd H1 tp (.tup [.ty "list", .ty "tuple"])) tp = some (.tup [.ty "list", .ty "tuple"]) := upd_same
        have g1 : Grow F0 H1 F0 (upd H1 tp (.tup [.ty "list", .ty "tuple"])) := (Grow.refl ac0.g.fh).junk (ac0.g.fh.free htp) htp _
        have ac1 := ac0.then g1
        generalize upd H1 tp (.tup [.ty "list", .ty "tuple"]) = H2 at *
        have ty := (hv.same ac1.g.fh).ty (K := K)
        refine ⟨_, tp, _, _, _, _, rfl, up, clsLT, ty, kitAny_row, _, rfl, ?_⟩
        cases e : isRowD d with
        | false =>
          have kt : ∀ {n : String}, n ∈ ["str", "int", "bool", "list", "tuple", "dict"] → PySem.W.kitOne K (.type (tyD d)) (.type n) = some (isD n d) := fun m => kit_ty (kit_d m)
          refine iteF ⟨_, rfl, _, _, _, _, _, rfl, .ty _, ty, kt (by simp), _, rfl, ?_⟩
          have flat : txtD d = [] → ∃ v2 F2, (List.set (L2.start sc_l_all_namesN [v]) 1 (some (V.ref L))) = [some v, some (.ref L), v2] ∧ Acc F0 H L F2 H2 ((txtD d).map V.str) := fun z => by
            rw [z]
            exact ⟨_, F0, rfl, ac1⟩
          cases d with
          | list _ => cases e
          | tuple _ => cases e
          | str z =>
            obtain rfl : v = V.str z := hv.strI
            exact iteT ⟨_, rfl, .inl ⟨rfl, _, .inl (.inl ac1.at_)⟩, _, rfl, L, _, _, rfl, rfl, ac1.at_, (by show 0 < sizeLine; decide), _, F0, rfl, ac1.add [.str z]⟩
          | _ => exact iteF (flat rfl)
        | true =>
          obtain ⟨c, xs, rfl, hx, hxs⟩ := hv.row e
          rw [dep_row e] at hd
          have hz2 := hz
          rw [siz_row e] at hz2
          have ls := siz_len (partsD d)
          have lx := hxs.len
          refine iteT ⟨_, rfl, c, xs, rfl, any_of (K := K) (rw_sq hx) ac1.g.fh fun J G gm wk => ?_⟩
          refine for_it wk (fun i σ H' => ∃ v2 F2, σ = [some (.ref c), some (.ref L), v2] ∧ Acc F0 H L F2 H' ((txtL ((partsD d).take i)).map V.str)) ⟨_, F0, rfl, ac1⟩ (fun i σ H' _ z => by obtain ⟨_, F2, _, z⟩ := z; exact gm H' (z.g.ff.trans z.g.fh)) ?_ ?_
          · rintro i x σ H4 H3 hi ⟨v2, F2, rfl, ac⟩ ⟨rfl, hxi⟩
            obtain ⟨c1, e1, q1⟩ := hxs.at hxi
            have mc := List.mem_of_getElem? e1
            have y1 := dep_mem mc
            have y2 := siz_mem mc
            refine ⟨_, rfl, .inl ⟨rfl, _, .inl (.inl ac.at_)⟩, _, rfl, F2, x, c1, rfl, ac.g.fh, q1.same ac.g.ff, by omega, by omega, fun l F4 H5 g hl => ?_⟩
            have ac2 := ac.then g
            refine ⟨L, l, _, _, rfl, rfl, ac2.at_, g.fh _ _ hl, ?_, ?_⟩
            · rw [List.length_map, List.length_map]
              have z1 := txt_len c1
              have z2 := txtL_len ((partsD d).take i)
              have z3 : sizL ((partsD d).take i) ≤ sizL (partsD d) := by
                have q := siz_app ((partsD d).take i) ((partsD d).drop i)
                rw [List.take_append_drop] at q
                omega
              exact Nat.le_of_lt (Nat.lt_of_le_of_lt (show _ ≤ 200000 by omega) (by decide))
            · refine ⟨_, F4, rfl, ?_⟩
              rw [List.take_add_one, e1]
              show Acc F0 H L F4 _ ((txtL ((partsD d).take i ++ [c1])).map V.str)
              rw [txtL_app, List.map_append, show txtL [c1] = txtD c1 from List.append_nil _]
              exact ac2.add _
          · rintro σ H3 ⟨v2, F2, rfl, ac⟩
            rw [lx, List.take_length, ← txt_row e] at ac
            exact ⟨_, F2, rfl, ac⟩
      · rintro σ' H2 ⟨v2, F2, rfl, ac⟩
        exact ⟨_, rfl, k L _ _ ac.keep upd_same⟩
end
end Fm

/-! ## K08LU -/
set_option Elab.async false
set_option maxRecDepth 100000
set_option maxHeartbeats 8000000
namespace Fm
open PySem L2
theorem blk_in {H : Hp} {v : V} {q : Str × List Str × List Str} (h : Tp H v (blkT q)) : ∃ e u w, v = .ref e ∧ H e = some (.tup [.str q.1, .ref u, .ref w]) ∧ H u = some (.tup (q.2.1.map V.str)) ∧ H w = some (.tup (q.2.2.map V.str)) := by
  obtain ⟨e, x, y, z, rfl, he, h1, h2, h3⟩ := tp3 h
  obtain rfl : x = V.str q.1 := h1.strI
  obtain ⟨u, xs, rfl, hu, tu⟩ := h2.tuple
  obtain ⟨w, ws, rfl, hw, tw⟩ := h3.tuple
  rw [strs_inv tu] at hu
  rw [strs_inv tw] at hw
  exact ⟨e, u, w, rfl, he, hu, hw⟩
theorem tp_rep {H : Hp} {v : V} {d : PyData} (h : Tp H v d) : ∀ n, TpAll H (List.replicate n v) (List.replicate n d)
  | 0 => .nil
  | n + 1 => .cons h (tp_rep h n)
def tmD (f : Str) : PyData := .tuple [.str "of", .str "r", .str f]
theorem isNm_8 {s : Str} (h : isNm s = true) : s.length ≤ 9 := by
  unfold isNm at h
  simp only [Bool.and_eq_true, decide_eq_true_eq] at h
  omega
theorem rep_bd (d : PyData) : ∀ n, depL (List.replicate n d) ≤ dep d ∧ sizL (List.replicate n d) = n * siz d ∧ mstL (List.replicate n d) ≤ mst d
  | 0 => ⟨Nat.zero_le _, by rw [Nat.zero_mul]; rfl, Nat.zero_le _⟩
  | n + 1 => by
    obtain ⟨h1, h2, h3⟩ := rep_bd d n
    refine ⟨?_, ?_, ?_⟩
    · show max (dep d) (depL (List.replicate n d)) ≤ dep d
      omega
    · show siz d + sizL (List.replicate n d) = (n + 1) * siz d
      rw [h2, Nat.succ_mul]
      omega
    · show max (mst d) (mstL (List.replicate n d)) ≤ mst d
      omega
theorem all_bd {p s m : Nat} : ∀ {ds : List PyData}, (∀ d ∈ ds, dep d ≤ p ∧ siz d ≤ s ∧ mst d ≤ m) → depL ds ≤ p ∧ sizL ds ≤ s * ds.length ∧ mstL ds ≤ m
  | [], _ => ⟨Nat.zero_le _, Nat.zero_le _, Nat.zero_le _⟩
  | d :: ds, h => by
    obtain ⟨h1, h2, h3⟩ := all_bd fun c mc => h c (List.mem_cons_of_mem d mc)
    obtain ⟨g1, g2, g3⟩ := h d List.mem_cons_self
    refine ⟨?_, ?_, ?_⟩
    · show max (dep d) (depL ds) ≤ p
      omega
    · show siz d + sizL ds ≤ s * (ds.length + 1)
      rw [Nat.mul_succ]
      omega
    · show max (mst d) (mstL ds) ≤ m
      omega
def putD (n : Str) (a c : Nat) (f : Str) : PyData := .tuple [.str "put", .str n, .tuple (List.replicate a (tmD f)), .tuple (List.replicate c (.tuple [.tuple [.int 2, .tuple [tmD f]]]))]
def scanD (t n : Str) (a c : Nat) (f : Str) : PyData := .tuple [.str "scan", .str "r", .str t, .tuple [putD n a c f]]
theorem scan_bd {t n f : Str} {a c : Nat} (ht : t.length ≤ 9) (hn : n.length ≤ 9) (hf : f.length ≤ 9) (ha : a ≤ 3) (hc : c ≤ 3) : dep (scanD t n a c f) ≤ 8 ∧ siz (scanD t n a c f) ≤ 46 ∧ mst (scanD t n a c f) ≤ 9 := by
  obtain ⟨a1, a2, a3⟩ := rep_bd (tmD f) a
  obtain ⟨c1, c2, c3⟩ := rep_bd (.tuple [.tuple [.int 2, .tuple [tmD f]]]) c
  have e1 : dep (tmD f) = 1 := rfl
  have e2 : siz (tmD f) = 4 := rfl
  have e3 : mst (tmD f) ≤ 9 := by
    show max 2 (max 1 (max f.length 0)) ≤ 9
    omega
  have o1 : dep (.tuple [.tuple [.int 2, .tuple [tmD f]]]) = 4 := rfl
  have o2 : siz (.tuple [.tuple [.int 2, .tuple [tmD f]]]) = 8 := rfl
  have o3 : mst (.tuple [.tuple [.int 2, .tuple [tmD f]]]) = mst (tmD f) := by
    show max (max 0 (max (max (mst (tmD f)) 0) 0)) 0 = mst (tmD f)
    omega
  rw [e1] at a1
  rw [e2] at a2
  rw [o1] at c1
  rw [o2] at c2
  rw [o3] at c3
  have p1 : dep (putD n a c f) = 1 + max 0 (max 0 (max (1 + depL (List.replicate a (tmD f))) (max (1 + depL (List.replicate c (.tuple [.tuple [.int 2, .tuple [tmD f]]]))) 0))) := rfl
  have p2 : siz (putD n a c f) = 1 + (1 + (1 + ((1 + sizL (List.replicate a (tmD f))) + ((1 + sizL (List.replicate c (.tuple [.tuple [.int 2, .tuple [tmD f]]]))) + 0)))) := rfl
  have p3 : mst (putD n a c f) = max 3 (max n.length (max (mstL (List.replicate a (tmD f))) (max (mstL (List.replicate c (.tuple [.tuple [.int 2, .tuple [tmD f]]]))) 0))) := rfl
  refine ⟨?_, ?_, ?_⟩
  · show 1 + max 0 (max 0 (max 0 (max (1 + max (dep (putD n a c f)) 0) 0))) ≤ 8
    omega
  · show 1 + (1 + (1 + (1 + ((1 + (siz (putD n a c f) + 0)) + 0)))) ≤ 46
    omega
  · show max 4 (max 1 (max t.length (max (max (mst (putD n a c f)) 0) 0))) ≤ 9
    omega
section
variable {P : Program} {w : World} {K : PySem.W.Frag} {mg : Str → Option Value} {base : Heap} {CS CG CRd PD CN CBP CBB CBS : Addr}
def spBody : Sp := fun vs H Q _ => ∃ (F : Hp) (b p l : Addr) (ts : List Tab) (bs : List (Str × List Str × List Str)), vs = [.ref b, .ref p, .ref l] ∧ Bag F H b ∧ TbAt F p ts ∧ TsOk ts ∧ Tp F (.ref l) (.list (bs.map blkT)) ∧ (∀ q ∈ bs, BOk q) ∧ 1 ≤ bs.length ∧ bs.length ≤ 6 ∧
  ∀ (y : V) (F' H' : Hp) (d : PyData), Bag F' H' b → Same F F' → Tp F' y d → dep d ≤ 9 → siz d ≤ 139 → mst d ≤ 9 → Q y H'
abbrev s_l_plain_body : Stmt := topS 92
abbrev sc_l_plain_bodyN : List Str := ["_law_bag_here", "_law_tables_here", "_law_blocks_here", "_law_body", "_law_k", "_law_name_here", "_law_keys", "_law_sums", "_law_table", "_law_fields", "_law_term", "_law_key", "_law_each", "_law_put"]
abbrev ps_l_plain_body : List Str := ["_law_bag_here", "_law_tables_here", "_law_blocks_here"]
theorem sc_l_plain_body : FnScope sc_l_plain_bodyN ps_l_plain_body (defScope s_l_plain_body) := ⟨rfl, rfl, rfl, by decide +kernel, rfl, by decide +kernel, by decide +kernel⟩
theorem ok_l_plain_body {f : Addr} {fd : FuncData} (F : Fun K "_law_plain_body" "_law_plain_body" s_l_plain_body f fd) (T : Txt K mg CS) (D_l_pick : Df P w K mg base "_law_pick" 1 ps_l_pick spPick) : FnOk P w K mg base CX0 2 f fd ps_l_plain_body spBody := by
  refine F.ok sc_l_plain_body (fun vs H Q E h => ?_) (fun cdv A outer s H vs Q E hr h => ?_)
  · obtain ⟨_, _, _, _, _, _, rfl, _⟩ := h
    rfl
  · obtain ⟨F0, b, p, l, ts, bs, rfl, B, tb, ok, tl, okb, b1, b6, k⟩ := h
    refine ⟨_, (pss_cons (ps_set (i := 3) sc_l_plain_body.nd rfl (Or.inl rfl) (pe_lst pa_nil))
  (pss_cons (ps_for PassesOwn.never rfl (pi_range1 (by rfl) T.n_range (pa_cons (pe_op op_add pe_int (pe_d D_l_pick (hr.mono (by decide)) (pa_cons (pv 0) (pa_cons pe_int pa_nil)))) pa_nil)) (pg_name (i := 4) sc_l_plain_body.nd rfl (Or.inl rfl))
    (pss_cons (ps_asg (pe_ix ix_list (pv 2) (pe_d D_l_pick (hr.mono (by decide)) (pa_cons (pv 0) (pa_cons (pe_callB call_len_seq (by rfl) T.n_len (by decide +kernel) (pa_cons (pv 2) pa_nil)) pa_nil))) (fun _ _ => rfl)) (pg_tup (by rfl) (pgs_cons (pg_name (i := 5) sc_l_plain_body.nd rfl (Or.inl rfl)) (pgs_cons (pg_name (i := 6) sc_l_plain_body.nd rfl (Or.inl rfl)) (pgs_cons (pg_name (i := 7) sc_l_plain_body.nd rfl (Or.inl rfl)) pgs_nil)))))
    (pss_cons (ps_asg (pe_ix ix_list (pv 1) (pe_d D_l_pick (hr.mono (by decide)) (pa_cons (pv 0) (pa_cons (pe_callB call_len_seq (by rfl) T.n_len (by decide +kernel) (pa_cons (pv 1) pa_nil)) pa_nil))) (fun _ _ => rfl)) (pg_tup (by rfl) (pgs_cons (pg_name (i := 8) sc_l_plain_body.nd rfl (Or.inl rfl)) (pgs_cons (pg_name (i := 9) sc_l_plain_body.nd rfl (Or.inl rfl)) pgs_nil))))
    (pss_cons (ps_set (i := 10) sc_l_plain_body.nd rfl (Or.inr rfl) (pe_tup (pa_cons pe_str (pa_cons pe_str (pa_cons (pe_ix ix_tup (pv 9) (pe_d D_l_pick (hr.mono (by decide)) (pa_cons (pv 0) (pa_cons (pe_callB call_len_seq (by rfl) T.n_len (by decide +kernel) (pa_cons (pv 9) pa_nil)) pa_nil))) (fun _ _ => rfl)) pa_nil)))))
    (pss_cons (ps_set (i := 13) sc_l_plain_body.nd rfl (Or.inl rfl) (pe_tup (pa_cons pe_str (pa_cons (pv 5) (pa_cons (pe_callTy call_tuple_of (by rfl) T.n_tuple (by decide +kernel) (pa_cons (pe_lc (own := [("_law_key", 11)]) (g := gName 11) (tt := tYes) (by rfl) sc_l_plain_body.nd (pi_tup (pv 6)) (blkOk_by (own := [("_law_key", 11)]) (N := sc_l_plain_bodyN) (sc := defScope s_l_plain_body) (by decide +kernel)) (fun _ _ _ _ _ => pg_name (i := 11) sc_l_plain_body.nd rfl (Or.inl rfl)) (fun _ _ _ _ _ => pts_nil) (fun _ _ _ _ _ => (pv 10))) pa_nil)) (pa_cons (pe_callTy call_tuple_of (by rfl) T.n_tuple (by decide +kernel) (pa_cons (pe_lc (own := [("_law_each", 12)]) (g := gName 12) (tt := tYes) (by rfl) sc_l_plain_body.nd (pi_tup (pv 7)) (blkOk_by (own := [("_law_each", 12)]) (N := sc_l_plain_bodyN) (sc := defScope s_l_plain_body) (by decide +kernel)) (fun _ _ _ _ _ => pg_name (i := 12) sc_l_plain_body.nd rfl (Or.inl rfl)) (fun _ _ _ _ _ => pts_nil) (fun _ _ _ _ _ => (pe_tup (pa_cons (pe_tup (pa_cons pe_int (pa_cons (pe_tup (pa_cons (pv 10) pa_nil)) pa_nil))) pa_nil)))) pa_nil)) pa_nil))))))
    (pss_one (ps_expr (pe_bm PySem.F.plainAttrs_list PySem.F.slot_list_append PySem.F.type_list_append mt_append (pv 3) (pa_cons (pe_tup (pa_cons pe_str (pa_cons pe_str (pa_cons (pv 8) (pa_cons (pe_tup (pa_cons (pv 13) pa_nil)) pa_nil))))) pa_nil)))))))))
  (pss_one (ps_ret (pv 3))))), ?_⟩
    obtain ⟨xs, hp, ta⟩ := id tb
    have lx : xs.length = ts.length := by rw [ta.len, List.length_map]
    have lo := ok.lo
    have hi := ok.hi
    obtain ⟨la, zs, ela, hl, tz⟩ := tl.list
    obtain rfl : l = la := V.ref.inj ela
    have lz : zs.length = bs.length := by rw [tz.len, List.length_map]
    refine ⟨Nat.zero_le _, fun D hD => ?_⟩
    have B2 := B.new (.lst []) hD
    have F0D : F0 D = none := B.fh.free hD
    refine ⟨_, rfl, _, b, 3, rfl, by decide, by decide, B2, fun r H1 r0 r1 B3 => ⟨_, _, rfl, rfl, _, rfl, by omega, by omega, ?_⟩⟩
    refine for_range (lo := 0) (n := (1 + r).toNat) (fun i σ H' => ∃ (G F' : Hp) (ys : List V) (ds : List PyData) (v4 v5 v6 v7 v8 v9 va vb vc vd : Option V), σ = [some (.ref b), some (.ref p), some (.ref l), some (.ref D), v4, v5, v6, v7, v8, v9, va, vb, vc, vd] ∧ Bag F' H' b ∧ Same F0 G ∧ Same G F' ∧ G D = none ∧ F' D = some (.lst ys) ∧ TpAll G ys ds ∧ ds.length = i ∧ ∀ d ∈ ds, dep d ≤ 8 ∧ siz d ≤ 46 ∧ mst d ≤ 9) ?_ ?_ ?_
    · exact ⟨F0, _, [], [], _, _, _, _, _, _, _, _, _, _, rfl, B3, Same.refl _, same_new _ F0D, F0D, upd_same, .nil, rfl, fun _ m => by cases m⟩
    · rintro i σ H4 hi4 ⟨G, F4, ys, ds, v4, v5, v6, v7, v8, v9, va, vb, vc, vd, rfl, B4, sG, sF, gD, f4D, td, ld, okd⟩
      have hl4 := B4.fh _ _ ((sG.trans sF) _ _ hl)
      refine ⟨_, rfl, _, rfl, _, rfl, l, zs, rfl, .inl (.inl (.inl hl4)), F4, b, _, rfl, by omega, by omega, B4, fun r5 H5 r50 r51 B5 => ?_⟩
      have s5 : Same F0 H5 := (sG.trans sF).trans B5.fh
      obtain ⟨v, hv, hvm⟩ := at_mem (xs := zs) r50 r51
      obtain ⟨j, hj⟩ := List.getElem?_of_mem hvm
      obtain ⟨c, hc, tc⟩ := tz.at hj
      rw [List.getElem?_map] at hc
      obtain ⟨q, hq, rfl⟩ := Option.map_eq_some_iff.mp hc
      obtain ⟨e, u, w9, rfl, he, hu, hw⟩ := blk_in tc
      have oq := okb q (List.mem_of_getElem? hq)
      refine ⟨l, _, _, _, rfl, rfl, .inl (.inl (s5 _ _ hl)), hv, ?_⟩
      refine ⟨e, _, rfl, .inl (.inl (s5 _ _ he)), rfl, _, _, rfl, _, _, rfl, _, _, rfl, rfl, ?_⟩
      have hp5 := s5 _ _ hp
      refine ⟨_, rfl, _, rfl, _, rfl, p, xs, rfl, .inl (.inl (.inl hp5)), F4, b, _, rfl, by omega, by omega, B5, fun r6 H6 r60 r61 B6 => ?_⟩
      have s6 : Same F0 H6 := (sG.trans sF).trans B6.fh
      obtain ⟨v2, hv2, hvm2⟩ := at_mem (xs := xs) r60 r61
      obtain ⟨j2, hj2⟩ := List.getElem?_of_mem hvm2
      obtain ⟨c2, hc2, tc2⟩ := ta.at hj2
      rw [List.getElem?_map] at hc2
      obtain ⟨t, ht, rfl⟩ := Option.map_eq_some_iff.mp hc2
      obtain ⟨e2, fa, rfl, he2, hfa⟩ := tab_in tc2
      have tok := ok.ok t (List.mem_of_getElem? ht)
      have lof := tok.fs.lo
      have hif := tok.fs.hi
      refine ⟨p, _, _, _, rfl, rfl, .inl (.inl (s6 _ _ hp)), hv2, ?_⟩
      refine ⟨e2, _, rfl, .inl (.inl (s6 _ _ he2)), rfl, _, _, rfl, _, _, rfl, rfl, ?_⟩
      refine ⟨_, rfl, _, rfl, _, rfl, fa, _, rfl, .inr (.inl (.inl (s6 _ _ hfa))), F4, b, _, rfl, by rw [List.length_map]; omega, by rw [List.length_map]; omega, B6, fun r7 H7 r70 r71 B7 => ?_⟩
      have s7 : Same F0 H7 := (sG.trans sF).trans B7.fh
      obtain ⟨v3, hv3, hvm3⟩ := at_mem (xs := t.2.map V.str) r70 r71
      obtain ⟨f9, mf, rfl⟩ := List.mem_map.mp hvm3
      have gf := tok.fs.nm f9 mf
      refine ⟨fa, _, _, _, rfl, rfl, .inl (.inl (s7 _ _ hfa)), hv3, (by show 3 ≤ sizeLine; decide), fun tt htt => ?_⟩
      have sGH : Same G H7 := sF.trans B7.fh
      have g1 := Grow.new sGH (.tup [.str "of", .str "r", .str f9]) htt
      have tT : Tp (upd G tt (.tup [.str "of", .str "r", .str f9])) (.ref tt) (tmD f9) := .tup upd_same (.cons (.str _) (.cons (.str _) (.cons (.str _) .nil)))
      generalize upd G tt (.tup [.str "of", .str "r", .str f9]) = G1 at *
      have s78 : Same H7 (upd H7 tt (.tup [.str "of", .str "r", .str f9])) := same_new _ htt
      generalize upd H7 tt (.tup [.str "of", .str "r", .str f9]) = H8 at *
      have s08 : Same F0 H8 := s7.trans s78
      -- the keys
      refine ⟨_, rfl, _, rfl, u, rfl, ⟨_, .inl (.inl (s08 _ _ hu))⟩, fun D2 hD2 => ?_⟩
      refine lc_it walk_tup (fun i H' => Acc G1 H8 D2 G1 H' (List.replicate i (V.ref tt)) ∧ Same F0 H') ⟨Acc.start g1.fh hD2, s08.trans (same_new _ hD2)⟩ (fun i H' _ z => .inl (.inl (z.2 _ _ hu))) ?_ ?_
      · rintro i x H9 H10 hi ⟨ac, s9⟩ ⟨rfl, hxi⟩
        refine ⟨rfl, _, rfl, _, ac.at_, ?_, ?_⟩
        · rw [List.length_replicate]
          have := oq.lk
          rw [List.length_map] at hi
          exact Nat.lt_of_le_of_lt (show i ≤ 100 by omega) (by decide)
        · rw [show List.replicate i (V.ref tt) ++ [V.ref tt] = List.replicate (i + 1) (V.ref tt) from List.replicate_succ'.symm]
          exact ⟨ac.add _, same_r s9 (s08.free hD2)⟩
      rintro H9 ⟨ac, s9⟩
      rw [List.length_map] at ac
      refine ⟨D2, _, rfl, .inl ⟨.inl (.inl ac.at_), fun k1 hk1 => ?_⟩⟩
      have g2 := ac.g.trans (Grow.new ac.g.fh (.tup (List.replicate q.2.1.length (V.ref tt))) hk1)
      have tK : Tp (upd G1 k1 (.tup (List.replicate q.2.1.length (V.ref tt)))) (.ref k1) (.tuple (List.replicate q.2.1.length (tmD f9))) := .tup upd_same (tp_rep (tT.same (same_new _ (ac.g.fh.free hk1))) _)
      have s10 : Same F0 (upd H9 k1 (.tup (List.replicate q.2.1.length (V.ref tt)))) := s9.trans (same_new _ hk1)
      have tT2 := tT.same (same_new (.tup (List.replicate q.2.1.length (V.ref tt))) (ac.g.fh.free hk1))
      generalize upd G1 k1 (.tup (List.replicate q.2.1.length (V.ref tt))) = G2 at *
      generalize upd H9 k1 (.tup (List.replicate q.2.1.length (V.ref tt))) = H10 at *
      clear ac
      -- the sums
      refine ⟨_, rfl, w9, rfl, ⟨_, .inl (.inl (s10 _ _ hw))⟩, fun D3 hD3 => ?_⟩
      refine lc_it walk_tup (fun i H' => (∃ F' zs, Acc G2 H10 D3 F' H' zs ∧ TpAll F' zs (List.replicate i (.tuple [.tuple [.int 2, .tuple [tmD f9]]]))) ∧ Same F0 H') ⟨⟨G2, [], Acc.start g2.fh hD3, .nil⟩, s10.trans (same_new _ hD3)⟩ (fun i H' _ z => .inl (.inl (z.2 _ _ hw))) ?_ ?_
      · rintro i x H9 H11 hi ⟨⟨F9, zz, ac, tz9⟩, s9⟩ ⟨rfl, hxi⟩
        refine ⟨rfl, _, rfl, (by show 1 ≤ sizeLine; decide), fun x1 hx1 => ⟨(by show 2 ≤ sizeLine; decide), fun x2 hx2 => ⟨(by show 1 ≤ sizeLine; decide), fun x3 hx3 => ?_⟩⟩⟩
        have n1 := Grow.new ac.g.fh (.tup [.ref tt]) hx1
        have n2 := Grow.new n1.fh (.tup [.int 2, .ref x1]) hx2
        have n3 := Grow.new n2.fh (.tup [.ref x2]) hx3
        have gy := (n1.trans n2).trans n3
        have tT9 := tT2.same ac.g.ff
        have t1 : Tp _ (.ref x1) (.tuple [tmD f9]) := .tup upd_same (.cons (tT9.same n1.ff) .nil)
        have t2 : Tp _ (.ref x2) (.tuple [.int 2, .tuple [tmD f9]]) := .tup upd_same (.cons (.int 2) (.cons (t1.same n2.ff) .nil))
        have t3 : Tp _ (.ref x3) (.tuple [.tuple [.int 2, .tuple [tmD f9]]]) := .tup upd_same (.cons (t2.same n3.ff) .nil)
        have ac2 := ac.then gy
        have s11 : Same F0 (upd (upd (upd H11 x1 (HO.tup [V.ref tt])) x2 (HO.tup [V.int 2, V.ref x1])) x3 (HO.tup [V.ref x2])) := ((s9.trans (same_new _ hx1)).trans (same_new _ hx2)).trans (same_new _ hx3)
        refine ⟨zz, ac2.at_, ?_, ⟨_, zz ++ [.ref x3], ac2.add _, ?_⟩, same_r s11 (s10.free hD3)⟩
        · rw [tz9.len, List.length_replicate]
          have := oq.ls
          rw [List.length_map] at hi
          exact Nat.lt_of_le_of_lt (show i ≤ 100 by omega) (by decide)
        · rw [List.replicate_succ']
          exact (tz9.same gy.ff).snoc t3
      rintro H11 ⟨⟨F9, zz, ac, tz9⟩, s9⟩
      rw [List.length_map] at tz9
      have lk := oq.lk
      have ls := oq.ls
      refine ⟨D3, _, rfl, .inl ⟨.inl (.inl ac.at_), fun k2 hk2 => ⟨(by show 4 ≤ sizeLine; decide), fun pu hpu => ?_⟩⟩⟩
      have n1 := Grow.new ac.g.fh (.tup zz) hk2
      have n2 := Grow.new n1.fh (.tup [.str "put", .str q.1, .ref k1, .ref k2]) hpu
      have t1 : Tp _ (.ref k2) (.tuple (List.replicate q.2.2.length (.tuple [.tuple [.int 2, .tuple [tmD f9]]]))) := .tup upd_same (tz9.same n1.ff)
      have t2 : Tp _ (.ref pu) (.tuple [.str "put", .str q.1, .tuple (List.replicate q.2.1.length (tmD f9)), .tuple (List.replicate q.2.2.length (.tuple [.tuple [.int 2, .tuple [tmD f9]]]))]) := .tup upd_same (.cons (.str _) (.cons (.str _) (.cons (tK.same ((ac.g.ff.trans n1.ff).trans n2.ff)) (.cons (t1.same n2.ff) .nil))))
      have s12 : Same F0 (upd (upd H11 k2 (.tup zz)) pu (.tup [.str "put", .str q.1, .ref k1, .ref k2])) := (s9.trans (same_new _ hk2)).trans (same_new _ hpu)
      have g3 := (g1.trans g2).trans (ac.g.trans (n1.trans n2))
      generalize upd (upd H11 k2 (.tup zz)) pu (.tup [.str "put", .str q.1, .ref k1, .ref k2]) = H12 at *
      generalize upd (upd F9 k2 (.tup zz)) pu (.tup [.str "put", .str q.1, .ref k1, .ref k2]) = G3 at *
      clear n1 n2 t1 ac tz9
      obtain ⟨F12, gGF, B12⟩ := Grow.under sF B7 g3
      obtain ⟨g3D, f12D⟩ := gGF.hh _ _ gD f4D
      have h12D := B12.fh _ _ f12D
      refine ⟨_, rfl, .inl ⟨rfl, _, .inl (.inl h12D)⟩, ?_⟩
      refine ⟨_, rfl, _, rfl, (by show 1 ≤ sizeLine; decide), fun x1 hx1 => ⟨(by show 4 ≤ sizeLine; decide), fun x2 hx2 => ?_⟩⟩
      have m1 := Grow.new gGF.fh (.tup [.ref pu]) (B12.fh.free hx1)
      have sGH2 : Same G3 H12 := gGF.fh.trans B12.fh
      have n1 := Grow.new sGH2 (.tup [.ref pu]) hx1
      have n2 := Grow.new n1.fh (.tup [.str "scan", .str "r", .str t.1, .ref x1]) hx2
      have tS : Tp (upd (upd G3 x1 (.tup [.ref pu])) x2 (.tup [.str "scan", .str "r", .str t.1, .ref x1])) (.ref x2) (scanD t.1 q.1 q.2.1.length q.2.2.length f9) := .tup upd_same (.cons (.str _) (.cons (.str _) (.cons (.str _) (.cons (.tup (n2.ff _ _ upd_same) (.cons (t2.same (n1.ff.trans n2.ff)) .nil)) .nil))))
      obtain ⟨F13, gGF2, B13⟩ := Grow.under gGF.fh B12 (n1.trans n2)
      obtain ⟨g4D, f13D⟩ := gGF2.hh _ _ g3D f12D
      have s13 := gGF2.ff
      generalize upd (upd G3 x1 (.tup [.ref pu])) x2 (.tup [.str "scan", .str "r", .str t.1, .ref x1]) = G4 at *
      generalize upd (upd H12 x1 (.tup [.ref pu])) x2 (.tup [.str "scan", .str "r", .str t.1, .ref x1]) = H14 at *
      have lys : ys.length = i := by rw [td.len]; exact ld
      refine ⟨D, _, _, rfl, rfl, B13.fh _ _ f13D, Nat.lt_of_le_of_lt (show ys.length ≤ 100 by omega) (by decide), ?_⟩
      have B14 := B13.put (.lst (ys ++ [.ref x2])) f13D
      have sG4 : Same G G4 := gGF.ff.trans gGF2.ff
      refine ⟨G4, _, ys ++ [.ref x2], ds ++ [scanD t.1 q.1 q.2.1.length q.2.2.length f9], _, _, _, _, _, _, _, _, _, _, rfl, B14, sG.trans sG4, same_r gGF2.fh g4D, g4D, upd_same, (td.same sG4).snoc tS, by rw [List.length_append, ld]; rfl, fun w hw => ?_⟩
      rcases List.mem_append.mp hw with hw | hw
      · exact okd w hw
      · rw [List.mem_singleton.mp hw]
        exact scan_bd (isNm_8 tok.nm) (isNm_8 oq.nm) (isNm_8 gf) oq.lk oq.ls
    · rintro σ H4 ⟨G, F4, ys, ds, v4, v5, v6, v7, v8, v9, va, vb, vc, vd, rfl, B4, sG, sF, gD, f4D, td, ld, okd⟩
      obtain ⟨z1, z2, z3⟩ := all_bd okd
      refine ⟨_, rfl, k _ _ H4 (.list ds) B4 (sG.trans sF) (.lst f4D (td.same sF)) ?_ ?_ z3⟩
      · show 1 + depL ds ≤ 9
        omega
      · show 1 + sizL ds ≤ 139
        have : ds.length ≤ 3 := by omega
        have := Nat.mul_le_mul_left 46 this
        omega
end
end Fm

/-! ## K08LV -/
set_option Elab.async false
set_option maxRecDepth 100000
set_option maxHeartbeats 16000000
namespace Fm
open PySem L2
theorem strs_bd : ∀ {fs : List Str}, (∀ f ∈ fs, isNm f = true) → depL (fs.map PyData.str) = 0 ∧ sizL (fs.map PyData.str) = fs.length ∧ mstL (fs.map PyData.str) ≤ 9
  | [], _ => ⟨rfl, rfl, Nat.zero_le _⟩
  | f :: fs, h => by
    obtain ⟨h1, h2, h3⟩ := strs_bd fun g m => h g (List.mem_cons_of_mem _ m)
    have z := isNm_8 (h f List.mem_cons_self)
    refine ⟨?_, ?_, ?_⟩
    · show max 0 (depL (fs.map PyData.str)) = 0
      omega
    · show 1 + sizL (fs.map PyData.str) = fs.length + 1
      omega
    · show max f.length (mstL (fs.map PyData.str)) ≤ 9
      omega
theorem tab_bd {t : Tab} (h : TOk t) : dep (tabD false t) ≤ 2 ∧ siz (tabD false t) ≤ 7 ∧ mst (tabD false t) ≤ 9 := by
  obtain ⟨h1, h2, h3⟩ := strs_bd h.fs.nm
  have z := isNm_8 h.nm
  have l := h.fs.hi
  refine ⟨?_, ?_, ?_⟩
  · show 1 + max 0 (max (1 + depL (t.2.map PyData.str)) 0) ≤ 2
    omega
  · show 1 + (1 + ((1 + sizL (t.2.map PyData.str)) + 0)) ≤ 7
    omega
  · show max t.1.length (max (mstL (t.2.map PyData.str)) 0) ≤ 9
    omega
theorem tabs_bd : ∀ {ts : List Tab}, (∀ t ∈ ts, TOk t) → depL (ts.map (tabD false)) ≤ 2 ∧ sizL (ts.map (tabD false)) ≤ 7 * ts.length ∧ mstL (ts.map (tabD false)) ≤ 9
  | [], _ => ⟨Nat.zero_le _, Nat.zero_le _, Nat.zero_le _⟩
  | t :: ts, h => by
    obtain ⟨h1, h2, h3⟩ := tabs_bd fun u m => h u (List.mem_cons_of_mem _ m)
    obtain ⟨g1, g2, g3⟩ := tab_bd (h t List.mem_cons_self)
    refine ⟨?_, ?_, ?_⟩
    · show max (dep (tabD false t)) (depL (ts.map (tabD false))) ≤ 2
      omega
    · show siz (tabD false t) + sizL (ts.map (tabD false)) ≤ 7 * (ts.length + 1)
      omega
    · show max (mst (tabD false t)) (mstL (ts.map (tabD false))) ≤ 9
      omega
theorem ts_bd {ts : List Tab} (ok : TsOk ts) : dep (.list (ts.map (tabD false))) ≤ 3 ∧ siz (.list (ts.map (tabD false))) ≤ 36 ∧ mst (.list (ts.map (tabD false))) ≤ 9 := by
  obtain ⟨h1, h2, h3⟩ := tabs_bd ok.ok
  have l := ok.hi
  refine ⟨?_, ?_, h3⟩
  · show 1 + depL (ts.map (tabD false)) ≤ 3
    omega
  · show 1 + sizL (ts.map (tabD false)) ≤ 36
    omega
theorem strsD_map : ∀ fs : List Str, strsD (fs.map PyData.str) = fs
  | [] => rfl
  | f :: fs => by
    show f :: strsD (fs.map PyData.str) = f :: fs
    rw [strsD_map fs]
theorem tab_ok {t : Tab} (h : TOk t) : tableD (tabD false t) = true := by
  show (isNm t.1 && nmsD 1 4 (.tuple (t.2.map PyData.str))) = true
  rw [h.nm]
  have l1 := h.fs.lo
  have l2 := h.fs.hi
  have e : (partsD (PyData.tuple (t.2.map PyData.str))) = t.2.map PyData.str := rfl
  unfold nmsD rowD3
  rw [e, List.length_map, strsD_map, decide_eq_true (p := (1 : Int) ≤ ((t.2.length : Nat) : Int)) (by omega), decide_eq_true (p := ((t.2.length : Nat) : Int) ≤ 4) (by omega), decide_eq_true h.fs.nd]
  have z : (t.2.map PyData.str).all isNmD = true := by
    rw [List.all_map, List.all_eq_true]
    exact fun f m => h.fs.nm f m
  rw [z]
  rfl
theorem first_tabs : ∀ {ts : List Tab} {names : List Str}, (∀ t ∈ ts, TOk t) → (names ++ ts.map (·.1)).Nodup → firstBadT names (ts.map (tabD false)) = none
  | [], _, _, _ => rfl
  | t :: ts, names, h, nd => by
    have no : t.1 ∉ names := fun m => by
      rw [List.nodup_append] at nd
      exact nd.2.2 t.1 m t.1 List.mem_cons_self rfl
    rw [List.map_cons, first_ok (tab_ok (h t List.mem_cons_self)) no]
    have z := first_tabs (names := names ++ [nameT (tabD false t)]) (fun u m => h u (List.mem_cons_of_mem _ m)) (by
      show ((names ++ [t.1]) ++ ts.map (·.1)).Nodup
      rw [List.append_assoc]
      exact nd)
    rw [z]
    rfl
theorem shape_ok {ts : List Tab} (ok : TsOk ts) : shapeBad (.list (ts.map (tabD false))) = none := by
  have l1 := ok.lo
  have l2 := ok.hi
  have r : rowD3 1 5 (.list (ts.map (tabD false))) = true := by
    unfold rowD3
    rw [show (partsD (PyData.list (ts.map (tabD false)))) = ts.map (tabD false) from rfl, List.length_map, decide_eq_true (p := (1 : Int) ≤ ((ts.length : Nat) : Int)) (by omega), decide_eq_true (p := ((ts.length : Nat) : Int) ≤ 5) (by omega)]
    rfl
  unfold shapeBad
  rw [if_pos r, show (partsD (PyData.list (ts.map (tabD false)))) = ts.map (tabD false) from rfl, first_tabs ok.ok (by rw [List.nil_append]; exact ok.nd)]
  rfl
theorem strs_tupd : ∀ fs : List Str, (fs.map PyData.str).map tupd = fs.map PyData.str
  | [] => rfl
  | f :: fs => by
    show PyData.str f :: (fs.map PyData.str).map tupd = _
    rw [strs_tupd fs]
    rfl
theorem tab_tupd (t : Tab) : tupd (tabD false t) = tabD false t := by
  rw [tupd_parts rfl]
  show PyData.tuple [.str t.1, tupd (.tuple (t.2.map PyData.str))] = _
  rw [tupd_parts rfl]
  show PyData.tuple [.str t.1, .tuple ((t.2.map PyData.str).map tupd)] = _
  rw [strs_tupd]
  rfl
theorem tabs_tupd {ts : List Tab} : tupd (.list (ts.map (tabD false))) = tsD ts := by
  rw [tupd_parts rfl]
  show PyData.tuple ((ts.map (tabD false)).map tupd) = .tuple (ts.map (tabD false))
  rw [List.map_map]
  exact congrArg PyData.tuple (List.map_congr_left fun t _ => tab_tupd t)
theorem grow_with {F H F' H' : Hp} {rd : Addr} {o : HO} (g : Grow F H F' H') (f : F rd = none) (h : H rd = some o) : Grow (upd F rd o) H (upd F' rd o) H' := by
  obtain ⟨z1, z2⟩ := g.hh rd o f h
  refine ⟨same_upd g.ff rd o, fun a u e => ?_, fun a u e1 e2 => ?_⟩
  · by_cases q : a = rd
    · rw [q, upd_same] at e
      rw [q, z2]
      exact e
    · rw [upd_ne q] at e
      exact g.fh _ _ e
  · have n : a ≠ rd := fun q => by
      rw [q, upd_same] at e1
      cases e1
    rw [upd_ne n] at e1 ⊢
    exact g.hh a u e1 e2
/-! ### the rows that are drawn -/
theorem front_bd {d : PyData} (n : Nat) (h : isRowD d = true) : dep (likeD d ((partsD d).take n)) ≤ dep d ∧ siz (likeD d ((partsD d).take n)) ≤ siz d ∧ mst (likeD d ((partsD d).take n)) ≤ mst d := by
  have o := (Of.all (partsD d)).cut 0 n
  rw [List.drop_zero] at o
  have z := near_like h o (Nat.le_refl 1)
  exact ⟨z.dp, by have y := z.sz; omega, z.ms⟩
theorem blks_bd {bs : List (Str × List Str × List Str)} (h : ∀ q ∈ bs, BOk q) : (∀ d ∈ bs.map blkT, dep d ≤ 2 ∧ siz d ≤ 10 ∧ mst d ≤ 9) := fun d m => by
  obtain ⟨q, mq, rfl⟩ := List.mem_map.mp m
  have o := h q mq
  obtain ⟨k1, k2, k3⟩ := strs_bd o.ks
  obtain ⟨s1, s2, s3⟩ := strs_bd o.ss
  have n := isNm_8 o.nm
  have l1 := o.lk
  have l2 := o.ls
  refine ⟨?_, ?_, ?_⟩
  · show 1 + max 0 (max (1 + depL (q.2.1.map PyData.str)) (max (1 + depL (q.2.2.map PyData.str)) 0)) ≤ 2
    omega
  · show 1 + (1 + ((1 + sizL (q.2.1.map PyData.str)) + ((1 + sizL (q.2.2.map PyData.str)) + 0))) ≤ 10
    omega
  · show max q.1.length (max (mstL (q.2.1.map PyData.str)) (max (mstL (q.2.2.map PyData.str)) 0)) ≤ 9
    omega
section
variable {P : Program} {w : World} {K : PySem.W.Frag} {mg : Str → Option Value} {base : Heap} {CS CG CRd PD CN CBP CBB CBS CB : Addr}
def spLaw (K : PySem.W.Frag) : Sp := fun vs H Q _ => ∃ (a : Addr) (ns : List Int), vs = [.ref a] ∧ SqL K H a (ns.map V.int) ∧ ns.length ≤ 63 ∧ ∀ H', Q (.bl true) H'
abbrev s_law : Stmt := topS 93
abbrev sc_lawN : List Str := ["_law_script", "_law_bag_here", "_law_tables_here", "_law_blocks_here", "_law_body", "_law_shape", "_law_table", "_law_names", "_law_k", "_law_spoiled_here", "_law_j", "_law_other", "_law_at_here", "_law_odd_here"]
abbrev ps_law : List Str := ["_law_script"]
theorem sc_law : FnScope sc_lawN ps_law (defScope s_law) := ⟨rfl, rfl, rfl, by decide +kernel, rfl, by decide +kernel, by decide +kernel⟩
theorem ok_law {f : Addr} {fd : FuncData} (F : Fun K "law" "law" s_law f fd) (T : Txt K mg CS) (D_l_bag : Df P w K mg base "_law_bag" 1 ps_l_bag (spBag K)) (D_l_pick : Df P w K mg base "_law_pick" 1 ps_l_pick spPick) (D_l_tables : Df P w K mg base "_law_tables" 3 ps_l_tables spTables) (D_l_blocks : Df P w K mg base "_law_blocks" 3 ps_l_blocks spBlocks) (D_l_plain_body : Df P w K mg base "_law_plain_body" 2 ps_l_plain_body spBody)
    (D_Shape : DcX P w K mg base "Shape" CS 41 ps_Shape_init (spShInit CS CB)) (D_l_all_names : Df P w K mg base "_law_all_names" 40 ps_l_all_names (spAllN 40)) (D_l_judged : Df P w K mg base "_law_judged" 45 ps_l_judged (spJudged CS)) (D_l_spoiled : Df P w K mg base "_law_spoiled" 41 ps_l_spoiled spSpoiled) (D_l_blocks_due : Df P w K mg base "_law_blocks_due" 3 ps_l_blocks_due spBDue)
    (D_l_odd : Df P w K mg base "_law_odd" 2 ps_l_odd spOdd) (D_l_made : Df P w K mg base "_law_made" 44 ps_l_made (spMadeP CS CG)) (D_l_alike : Df P w K mg base "_law_alike" 40 ps_l_alike (spAlike 40)) : FnOk P w K mg base CX0 46 f fd ps_law (spLaw K) := by
  refine F.ok sc_law (fun vs H Q E h => ?_) (fun cdv A outer s H vs Q E hr h => ?_)
  · obtain ⟨_, _, rfl, _⟩ := h
    rfl
  · obtain ⟨a, ns, rfl, hs, len, k⟩ := h
    refine ⟨_, (pss_cons (ps_set (i := 1) sc_law.nd rfl (Or.inl rfl) (pe_d D_l_bag (hr.mono (by decide)) (pa_cons (pv 0) pa_nil)))
  (pss_cons (ps_set (i := 2) sc_law.nd rfl (Or.inl rfl) (pe_d D_l_tables (hr.mono (by decide)) (pa_cons (pv 1) pa_nil)))
  (pss_cons (ps_set (i := 3) sc_law.nd rfl (Or.inl rfl) (pe_d D_l_blocks (hr.mono (by decide)) (pa_cons (pv 1) (pa_cons (pv 2) (pa_cons (pe_op op_add pe_int (pe_d D_l_pick (hr.mono (by decide)) (pa_cons (pv 1) (pa_cons pe_int pa_nil)))) pa_nil)))))
  (pss_cons (ps_set (i := 4) sc_law.nd rfl (Or.inl rfl) (pe_d D_l_plain_body (hr.mono (by decide)) (pa_cons (pv 1) (pa_cons (pv 2) (pa_cons (pv 3) pa_nil)))))
  (pss_cons (ps_set (i := 5) sc_law.nd rfl (Or.inl rfl) (pe_dcE (W := fun _ _ _ _ => False) D_Shape (hr.mono (by decide)) takes0 (pa_cons (pv 2) pa_nil)))
  (pss_cons (ps_set (i := 7) sc_law.nd rfl (Or.inl rfl) (pe_d D_l_all_names (hr.mono (by decide)) (pa_cons (pe_lst (pa_cons (pv 3) (pa_cons (pe_lc (own := [("_law_table", 6)]) (g := gName 6) (tt := tYes) (by rfl) sc_law.nd (pi_list (pv 2)) (blkOk_by (own := [("_law_table", 6)]) (N := sc_lawN) (sc := defScope s_law) (by decide +kernel)) (fun _ _ _ _ _ => pg_name (i := 6) sc_law.nd rfl (Or.inl rfl)) (fun _ _ _ _ _ => pts_nil) (fun _ _ _ _ _ => (pe_ix (ixK_tup (K := K)) (pv 6) pe_int (fun _ _ => rfl)))) (pa_cons (pe_ix ix_tup (pe_ix ix_list (pv 2) pe_int (fun _ _ => rfl)) pe_int (fun _ _ => rfl)) pa_nil)))) pa_nil)))
  (pss_cons (ps_if (PW.pt (pw_or (pt_not (pt_val (pe_d D_l_judged (hr.mono (by decide)) (pa_cons (pv 5) (pa_cons (pv 2) (pa_cons (pv 3) (pa_cons (pv 4) pa_nil))))))) (pw_or1 (pt_not (pt_val (pe_d D_l_judged (hr.mono (by decide)) (pa_cons (pv 5) (pa_cons (pv 2) (pa_cons (pe_callTy call_tuple_of (by rfl) T.n_tuple (by decide +kernel) (pa_cons (pv 3) pa_nil)) (pa_cons (pv 4) pa_nil))))))))))
    (pss_one (ps_ret pe_bl))
    pss_nil)
  (pss_cons (ps_for PassesOwn.never rfl (pi_range1 (by rfl) T.n_range (pa_cons pe_int pa_nil)) (pg_name (i := 8) sc_law.nd rfl (Or.inl rfl))
    (pss_cons (ps_set (i := 9) sc_law.nd rfl (Or.inl rfl) (pv 3))
    (pss_cons (ps_for PassesOwn.never rfl (pi_range1 (by rfl) T.n_range (pa_cons (pe_op op_add pe_int (pe_d D_l_pick (hr.mono (by decide)) (pa_cons (pv 1) (pa_cons pe_int pa_nil)))) pa_nil)) (pg_name (i := 10) sc_law.nd rfl (Or.inl rfl))
      (pss_one (ps_set (i := 9) sc_law.nd rfl (Or.inl rfl) (pe_d D_l_spoiled (hr.mono (by decide)) (pa_cons (pv 1) (pa_cons (pv 9) (pa_cons (pv 7) pa_nil)))))))
    (pss_cons (ps_set (i := 11) sc_law.nd rfl (Or.inl rfl) (pv 4))
    (Evl.pss_cut (ps_if (pt_cmpR op_eq (pe_d D_l_pick (hr.mono (by decide)) (pa_cons (pv 1) (pa_cons pe_int pa_nil))) pe_int (nomark _))
      (pss_one (ps_set (i := 11) sc_law.nd rfl (Or.inl rfl) (pe_d D_l_spoiled (hr.mono (by decide)) (pa_cons (pv 1) (pa_cons (pv 4) (pa_cons (pv 7) pa_nil))))))
      pss_nil)
    (pss_cons (ps_if (pt_not (pt_val (pe_d D_l_judged (hr.mono (by decide)) (pa_cons (pv 5) (pa_cons (pv 2) (pa_cons (pv 9) (pa_cons (pv 11) pa_nil)))))))
      (pss_one (ps_ret pe_bl))
      pss_nil)
    (pss_cons (ps_set (i := 12) sc_law.nd rfl (Or.inl rfl) (pe_d D_l_blocks_due (hr.mono (by decide)) (pa_cons (pv 2) (pa_cons (pv 9) pa_nil))))
    (pss_one (ps_if (PW.pt (pw_and (pt_cmpR op_notN (pv 12) pe_non (nomark _)) (pw_and (pt_cmpR op_gt (pv 12) pe_int (nomark _)) (pw_and1 (pt_not (pt_val (pe_d D_l_judged (hr.mono (by decide)) (pa_cons (pv 5) (pa_cons (pv 2) (pa_cons (pe_slice sl_any (pv 9) po_none (po_some (pv 12))) (pa_cons (pv 11) pa_nil)))))))))))
      (pss_one (ps_ret pe_bl))
      pss_nil)))))))))
  (pss_cons (ps_set (i := 13) sc_law.nd rfl (Or.inl rfl) (pe_d D_l_odd (hr.mono (by decide)) (pa_cons (pv 1) pa_nil)))
  (pss_one (ps_ret (pe_d D_l_alike (hr.mono (by decide)) (pa_cons (pe_d D_l_made (hr.mono (by decide)) (pa_cons (pv 13) (pa_cons (pv 9) (pa_cons (pv 11) pa_nil)))) (pa_cons (pe_tup (pa_cons pe_str (pa_cons (pv 13) pa_nil))) pa_nil)))))))))))))), ?_⟩
    refine ⟨_, rfl, a, ns, rfl, hs, len, fun b H0 B0 => ?_⟩
    refine ⟨_, rfl, nil0, b, rfl, B0, fun p F0 H1 ts B1 _ ok tb => ?_⟩
    have lo := ok.lo
    have hi := ok.hi
    refine ⟨_, rfl, _, rfl, _, rfl, _, b, 6, rfl, by decide, by decide, B1, fun r H2 r0 r1 B2 => ⟨_, _, rfl, rfl, F0, b, p, ts, 1 + r, rfl, B2, tb, ok, by omega, by omega, fun l F1 H3 bs B3 s01 tl okb lb => ?_⟩⟩
    refine ⟨_, rfl, _, rfl, _, rfl, F1, b, p, l, ts, bs, rfl, B3, tb.same s01, ok, tl, okb, by omega, by omega, fun yv F2 H4 dY B4 s12 ty y1 y2 y3 => ?_⟩
    obtain ⟨d1, d2, d3⟩ := ts_bd ok
    obtain ⟨xs, hp, ta⟩ := (tb.same s01).same s12
    have lx : xs.length = ts.length := by rw [ta.len, List.length_map]
    refine ⟨_, rfl, fun x dx nx nd ne => shape_made B4.fh (.lst hp ta) (by omega) (by omega) (by omega) nx nd ne (fun i e => by rw [shape_ok ok] at e; cases e) fun _ F3 H5 g3 sh => ?_⟩
    rw [tabs_tupd] at sh
    have B5 := B4.grow g3
    have hp3 := g3.ff _ _ hp
    have ta3 := ta.same g3.ff
    have ty3 := ty.same g3.ff
    have tl3 := tl.same (s12.trans g3.ff)
    clear g3 ty hp ta tl tb B4 B3 B2 B1
    have tb3 : TbAt F3 p ts := ⟨xs, hp3, ta3⟩
    -- the names
    refine ⟨_, rfl, _, rfl, p, rfl, ⟨xs, .inl (.inl (B5.fh _ _ hp3))⟩, fun D hD => ?_⟩
    have fD : F3 D = none := B5.fh.free hD
    refine lc_it walk_list (fun i H' => Bag (upd F3 D (.lst (((ts.map (·.1)).take i).map V.str))) H' b) (B5.new _ hD) (fun i H' _ z => .inl (.inl (z.fh _ _ (same_new _ fD _ _ hp3)))) ?_ ?_
    · rintro i x H6 H7 hi2 B6 ⟨rfl, hxi⟩
      obtain ⟨c, hc, hcv⟩ := ta3.at hxi
      rw [List.getElem?_map] at hc
      obtain ⟨t, ht, rfl⟩ := Option.map_eq_some_iff.mp hc
      obtain ⟨e, r, rfl, he, hr2⟩ := tab_in hcv
      have s4 : Same F3 H7 := (same_new _ fD).trans B6.fh
      refine ⟨rfl, _, rfl, e, _, 0, _, rfl, rfl, .inl (.inl (s4 _ _ he)), ix0, _, B6.fh _ _ upd_same, ?_, ?_⟩
      · rw [List.length_map]
        exact Nat.lt_of_le_of_lt (show ((ts.map (·.1)).take i).length ≤ 100 by rw [List.length_take, List.length_map]; omega) (by decide)
      · have B7 := B6.put (.lst (((ts.map (·.1)).take i).map V.str ++ [V.str t.1])) upd_same
        rw [upd_upd] at B7
        rw [List.take_add_one, List.getElem?_map, ht]
        show Bag (upd F3 D (.lst (((ts.map (·.1)).take i ++ [t.1]).map V.str))) _ b
        rw [List.map_append]
        exact B7
    rintro H6 B6
    rw [lx, ← List.length_map (f := (·.1)) (as := ts), List.take_length] at B6
    have s34 : Same F3 (upd F3 D (.lst ((ts.map (·.1)).map V.str))) := same_new _ fD
    have tD : Tp (upd F3 D (.lst ((ts.map (·.1)).map V.str))) (.ref D) (.list ((ts.map (·.1)).map PyData.str)) := .lst upd_same (TpAll.strs _)
    have sh4 := sh.same s34
    have tb4 := tb3.same s34
    have tl4 := tl3.same s34
    have ty4 := ty3.same s34
    have hp4 := s34 _ _ hp3
    have ta4 := ta3.same s34
    generalize upd F3 D (.lst ((ts.map (·.1)).map V.str)) = F4 at *
    clear B5 hp3 ta3 ty3 tl3 tb3 sh s34 fD
    obtain ⟨t0, ht0⟩ : ∃ t0, ts[0]? = some t0 := ⟨ts[0]'(by omega), List.getElem?_eq_getElem _⟩
    obtain ⟨v0, hv0, tv0⟩ := ta4.to (show (ts.map (tabD false))[0]? = some (tabD false t0) by rw [List.getElem?_map, ht0]; rfl)
    obtain ⟨e0, f0, rfl, he0, hf0⟩ := tab_in tv0
    have tok0 := ok.ok t0 (List.mem_of_getElem? ht0)
    have lof := tok0.fs.lo
    have hif := tok0.fs.hi
    have s6 := B6.fh
    refine ⟨_, rfl, p, xs, 0, _, rfl, rfl, .inl (.inl (s6 _ _ hp4)), atI_nat hv0, e0, _, 1, _, rfl, rfl, .inl (.inl (s6 _ _ he0)), ix1, (by show 3 ≤ sizeLine; decide), fun ls hls => ?_⟩
    have B7 := B6.new (.lst [.ref l, .ref D, .ref f0]) hls
    have s45 : Same F4 (upd F4 ls (.lst [.ref l, .ref D, .ref f0])) := same_new _ (B6.fh.free hls)
    have tN : Tp (upd F4 ls (.lst [.ref l, .ref D, .ref f0])) (.ref ls) (.list [.list (bs.map blkT), .list ((ts.map (·.1)).map PyData.str), .tuple (t0.2.map PyData.str)]) := .lst upd_same (.cons (tl4.same s45) (.cons (tD.same s45) (.cons (.tup (s45 _ _ hf0) (TpAll.strs _)) .nil)))
    have sh5 := sh4.same s45
    have tb5 := tb4.same s45
    have tl5 := tl4.same s45
    have ty5 := ty4.same s45
    generalize upd F4 ls (.lst [.ref l, .ref D, .ref f0]) = F5 at *
    generalize upd H6 ls (.lst [.ref l, .ref D, .ref f0]) = H7 at *
    clear B6 sh4 tb4 tl4 ty4 hp4 ta4 s45 tD s6 hv0 tv0 he0 hf0
    obtain ⟨c1, c2, c3⟩ := all_bd (blks_bd okb)
    have nmT : ∀ f ∈ ts.map (·.1), isNm f = true := fun f m => by
      obtain ⟨t, mt, rfl⟩ := List.mem_map.mp m
      exact (ok.ok t mt).nm
    obtain ⟨e1, e2, e3⟩ := strs_bd nmT
    obtain ⟨g1, g2, g3⟩ := strs_bd tok0.fs.nm
    rw [List.length_map] at c2 e2
    have pN : dep (.list [.list (bs.map blkT), .list ((ts.map (·.1)).map PyData.str), .tuple (t0.2.map PyData.str)]) < 40 := by
      show 1 + max (1 + depL (bs.map blkT)) (max (1 + depL ((ts.map (·.1)).map PyData.str)) (max (1 + depL (t0.2.map PyData.str)) 0)) < 40
      omega
    have zN : siz (.list [.list (bs.map blkT), .list ((ts.map (·.1)).map PyData.str), .tuple (t0.2.map PyData.str)]) ≤ 900 := by
      show 1 + ((1 + sizL (bs.map blkT)) + ((1 + sizL ((ts.map (·.1)).map PyData.str)) + ((1 + sizL (t0.2.map PyData.str)) + 0))) ≤ 900
      omega
    have mN : mst (.list [.list (bs.map blkT), .list ((ts.map (·.1)).map PyData.str), .tuple (t0.2.map PyData.str)]) ≤ 9 := by
      show max (mstL (bs.map blkT)) (max (mstL ((ts.map (·.1)).map PyData.str)) (max (mstL (t0.2.map PyData.str)) 0)) ≤ 9
      omega
    have lN : 1 ≤ (txtD (.list [.list (bs.map blkT), .list ((ts.map (·.1)).map PyData.str), .tuple (t0.2.map PyData.str)])).length := by
      show 1 ≤ (txtL (bs.map blkT) ++ (txtL ((ts.map (fun t : Tab => t.1)).map PyData.str) ++ (txtL (t0.2.map PyData.str) ++ []))).length
      have z : (txtL (t0.2.map PyData.str)).length = t0.2.length := by
        have go : ∀ l : List Str, (txtL (l.map PyData.str)).length = l.length := by
          intro l
          induction l with
          | nil => rfl
          | cons x l ih => show (txtL (l.map PyData.str)).length + 1 = l.length + 1; rw [ih]
        exact go _
      rw [List.length_append, List.length_append, List.length_append]
      omega
    generalize PyData.list [.list (bs.map blkT), .list ((ts.map (·.1)).map PyData.str), .tuple (t0.2.map PyData.str)] = dN at *
    refine ⟨F5, .ref ls, dN, rfl, B7.fh, tN, pN, by omega, fun q F6 H8 g6 hq => ?_⟩
    have B8 := B7.grow g6
    have sh6 := sh5.same g6.ff
    have tb6 := tb5.same g6.ff
    have tl6 := tl5.same g6.ff
    have ty6 := ty5.same g6.ff
    have zl := txt_len dN
    have ml : ∀ n ∈ txtD dN, n.length ≤ 9 := fun n m => Nat.le_trans (txt_mst dN n m) mN
    generalize txtD dN = N at *
    clear g6 tN B7 sh5 tb5 tl5 ty5
    have pB : dep (.list (bs.map blkT)) ≤ 3 := by
      show 1 + depL (bs.map blkT) ≤ 3
      omega
    have zB : siz (.list (bs.map blkT)) ≤ 61 := by
      show 1 + sizL (bs.map blkT) ≤ 61
      omega
    have mB : mst (.list (bs.map blkT)) ≤ 9 := c3
    have pB2 : dep (.tuple (bs.map blkT)) < 39 := by
      show 1 + depL (bs.map blkT) < 39
      omega
    have zB2 : siz (.tuple (bs.map blkT)) ≤ 40000 := by
      show 1 + sizL (bs.map blkT) ≤ 40000
      omega
    have mB2 : mst (.tuple (bs.map blkT)) ≤ 100000 := Nat.le_trans c3 (by decide)
    have s8 := B8.fh
    refine ⟨_, rfl, _, rfl, _, rfl, _, rfl, x, p, .ref l, yv, ts, .list (bs.map blkT), dY, rfl, sh6.same s8, ok, tb6.same s8, tl6.same s8, ty6.same s8, by omega, by omega, by omega, by omega, by omega, by omega, fun H9 s9 => ⟨_, rfl, iteF ?_⟩⟩
    have B9 := bag_same B8 s9
    obtain ⟨la, ls2, ela, hl6, tls⟩ := tl6.list
    obtain rfl : l = la := V.ref.inj ela
    refine ⟨_, rfl, _, rfl, _, rfl, l, ls2, rfl, .inl ⟨.inl (.inl (B9.fh _ _ hl6)), fun u hu => ?_⟩⟩
    have Ba := B9.new (.tup ls2) hu
    have s6a : Same F6 (upd F6 u (.tup ls2)) := same_new _ (B9.fh.free hu)
    have tu : Tp (upd F6 u (.tup ls2)) (.ref u) (.tuple (bs.map blkT)) := .tup upd_same (tls.same s6a)
    have sha := sh6.same s6a
    have tba := tb6.same s6a
    have tla := tl6.same s6a
    have tya := ty6.same s6a
    have hqa := s6a _ _ hq
    generalize upd F6 u (.tup ls2) = Fa at *
    generalize upd H9 u (.tup ls2) = Ha at *
    clear s6a s8 B8 hl6 tls B9 s9 sh6 tb6 tl6 ty6 hu hq
    have sa := Ba.fh
    refine ⟨_, rfl, x, p, .ref u, yv, ts, .tuple (bs.map blkT), dY, rfl, sha.same sa, ok, tba.same sa, tu.same sa, tya.same sa, pB2, by omega, zB2, by omega, mB2, by omega, fun Hb sb => ⟨_, rfl, iteF ?_⟩⟩
    have Bb := bag_same Ba sb
    clear tu sa Ba pB2 zB2 mB2 sb
    refine ⟨_, rfl, by omega, by omega, ?_⟩
    refine for_range (lo := 0) (n := 4) (fun i σ H' => ∃ (G : Hp) (v6 v8 v9 v10 v11 v12 v13 : Option V), σ = [some (.ref a), some (.ref b), some (.ref p), some (.ref l), some yv, some (.ref x), v6, some (.ref q), v8, v9, v10, v11, v12, v13] ∧ Bag G H' b ∧ Same Fa G ∧ (i = 0 ∨ ∃ sv ov dS dO, v9 = some sv ∧ v11 = some ov ∧ Tp G sv dS ∧ Tp G ov dO ∧ dep dS ≤ 18 ∧ siz dS ≤ 16000 ∧ mst dS ≤ 100 ∧ dep dO ≤ 20 ∧ siz dO ≤ 2300 ∧ mst dO ≤ 100)) ?_ ?_ ?_
    · exact ⟨Fa, _, _, _, _, _, _, _, rfl, Bb, Same.refl _, .inl rfl⟩
    · rintro i σ Hc hi4 ⟨G, v6, v8, v9, v10, v11, v12, v13, rfl, Bc, sG, _⟩
      refine ⟨_, rfl, _, rfl, _, b, 2, rfl, by decide, by decide, Bc, fun r2 Hd r20 r21 Bd => ⟨_, _, rfl, rfl, _, rfl, by omega, by omega, ?_⟩⟩
      refine for_range (lo := 0) (n := (1 + r2).toNat) (fun j σ H' => ∃ (G : Hp) (v : V) (d : PyData) (v10 : Option V), σ = [some (.ref a), some (.ref b), some (.ref p), some (.ref l), some yv, some (.ref x), v6, some (.ref q), some (.int (0 + (i : Nat))), some v, v10, v11, v12, v13] ∧ Bag G H' b ∧ Same Fa G ∧ Tp G v d ∧ ((j = 0 ∧ dep d ≤ 3 ∧ siz d ≤ 61 ∧ mst d ≤ 9) ∨ (j = 1 ∧ dep d ≤ 8 ∧ siz d ≤ 986 ∧ mst d ≤ 27) ∨ (j = 2 ∧ dep d ≤ 18 ∧ siz d ≤ 16000 ∧ mst d ≤ 63))) ?_ ?_ ?_
      · exact ⟨G, _, _, _, rfl, Bd, sG, tla.same sG, .inl ⟨rfl, pB, zB, mB⟩⟩
      · rintro j σ He hj ⟨G2, v, d, v10, rfl, Be, sG2, tv, bd⟩
        refine ⟨_, rfl, _, rfl, _, rfl, G2, b, q, v, d, N, rfl, Be, tv, sG2 _ _ hqa, lN, by omega, ml, by omega, by omega, by omega, fun u2 e9 G3 Hf Bf s23 te z1 z2 z3 => ?_⟩
        exact ⟨G3, u2, e9, _, rfl, Bf, sG2.trans s23, te, by omega⟩
      rintro σ He ⟨G2, v, d, v10, rfl, Be, sG2, tv, bd⟩
      have bd : dep d ≤ 18 ∧ siz d ≤ 16000 ∧ mst d ≤ 63 := by omega
      obtain ⟨k1, k2, k3⟩ := bd
      -- the other body
      refine ⟨_, rfl, fun σ' H' => ∃ (G3 : Hp) (ov : V) (dO : PyData), σ' = [some (.ref a), some (.ref b), some (.ref p), some (.ref l), some yv, some (.ref x), v6, some (.ref q), some (.int (0 + (i : Nat))), some v, v10, some ov, v12, v13] ∧ Bag G3 H' b ∧ Same G2 G3 ∧ Tp G3 ov dO ∧ dep dO ≤ 20 ∧ siz dO ≤ 2300 ∧ mst dO ≤ 100, ?_, ?_⟩
      · refine ⟨_, rfl, _, b, 4, rfl, by decide, by decide, Be, fun r4 Hg r40 r41 Bg => ⟨rfl, _, rfl, ifd (fun _ => ?_) fun _ => ?_⟩⟩
        · refine ⟨_, rfl, _, rfl, _, rfl, G2, b, q, yv, dY, N, rfl, Bg, tya.same sG2, sG2 _ _ hqa, lN, by omega, ml, by omega, by omega, by omega, fun u2 e9 G3 Hf Bf s23 te z1 z2 z3 => ?_⟩
          exact ⟨G3, u2, e9, rfl, Bf, s23, te, by omega, by omega, by omega⟩
        · exact ⟨G2, yv, dY, rfl, Bg, Same.refl _, tya.same sG2, by omega, by omega, by omega⟩
      rintro σ' Hf ⟨G3, ov, dO, rfl, Bf, s23, to, o1, o2, o3⟩
      have sG3 := sG2.trans s23
      have tv3 := tv.same s23
      have sf := Bf.fh
      have sH := sG3.trans sf
      refine ⟨_, rfl, _, rfl, _, rfl, _, rfl, x, p, v, ov, ts, d, dO, rfl, sha.same sH, ok, tba.same sH, tv3.same sf, to.same sf, by omega, by omega, by omega, by omega, by omega, by omega, fun Hg sg => ⟨_, rfl, iteF ?_⟩⟩
      have Bg := bag_same Bf sg
      have sg2 := Bg.fh
      have sH2 := sG3.trans sg2
      refine ⟨_, rfl, _, rfl, v, d, p, ts, rfl, tba.same sH2, ok, tv3.same sg2, by omega, by omega, fun Hh sh2 => ?_⟩
      have Bh := bag_same Bg sh2
      have fin : ∀ {H' : Hp} {v12 : Option V}, Bag G3 H' b → ∃ (G : Hp) (v6' v8' v9' v10' v11' v12' v13' : Option V), [some (.ref a), some (.ref b), some (.ref p), some (.ref l), some yv, some (.ref x), v6, some (.ref q), some (V.int (0 + (i : Nat))), some v, v10, some ov, v12, v13] = [some (.ref a), some (.ref b), some (.ref p), some (.ref l), some yv, some (.ref x), v6', some (.ref q), v8', v9', v10', v11', v12', v13'] ∧ Bag G H' b ∧ Same Fa G ∧ (i + 1 = 0 ∨ ∃ sv ov dS dO, v9' = some sv ∧ v11' = some ov ∧ Tp G sv dS ∧ Tp G ov dO ∧ dep dS ≤ 18 ∧ siz dS ≤ 16000 ∧ mst dS ≤ 100 ∧ dep dO ≤ 20 ∧ siz dO ≤ 2300 ∧ mst dO ≤ 100) := fun {H' v12} B => ⟨G3, _, _, _, _, _, _, _, rfl, B, sG3, .inr ⟨v, ov, d, dO, rfl, rfl, tv3, to, k1, k2, by omega, o1, o2, o3⟩⟩
      cases eb : blocksBad ts d with
      | none => exact ⟨_, rfl, rfl, _, rfl, iteF (fin Bh)⟩
      | some n =>
        refine ⟨_, rfl, rfl, _, rfl, iteT ⟨_, rfl, _, _, rfl, rfl, _, rfl, ifd (fun pos => ?_) fun np => ?_⟩⟩
        · obtain ⟨m, rfl⟩ : ∃ m : Nat, n = (m : Int) := ⟨n.toNat, by omega⟩
          have er : isRowD d = true := by
            unfold blocksBad at eb
            by_cases e : rowD3 1 6 d = true
            · exact (rowD3_row e).1
            · rw [if_neg e] at eb
              have z := Option.some.inj eb
              omega
          have sh3 := Bh.fh
          refine ⟨_, rfl, _, rfl, _, rfl, _, rfl, _, rfl, sl_tree sh3 tv3 er fun u5 G5 H5 gr tu => ?_⟩
          obtain ⟨f1, f2, f3⟩ := front_bd (min m (partsD d).length) er
          rw [HT.sIx_none, HT.sIx_nat, List.drop_zero, Nat.sub_zero] at tu
          generalize likeD d ((partsD d).take (min m (partsD d).length)) = dd at *
          have sH5 := (sG3.trans gr.ff).trans gr.fh
          refine ⟨_, rfl, x, p, u5, ov, ts, dd, dO, rfl, sha.same sH5, ok, tba.same sH5, tu.same gr.fh, to.same (gr.ff.trans gr.fh), by omega, by omega, by omega, by omega, by omega, by omega, fun H7 s7 => ⟨_, rfl, iteF ?_⟩⟩
          exact fin (bag_same (bag_sub gr.ff (Bh.grow gr)) s7)
        · exact iteF (fin Bh)
    · rintro σ Hc ⟨G, v6, v8, v9, v10, v11, v12, v13, rfl, Bc, sG, h0 | ⟨sv, ov, dS, dO, rfl, rfl, ts9, to9, k1, k2, k3, o1, o2, o3⟩⟩
      · exact absurd h0 (by decide)
      refine ⟨_, rfl, G, b, rfl, Bc, fun v G2 Hd Bd s2 od => ?_⟩
      obtain ⟨d, td, d1, d2, d3⟩ := od
      have sd := Bd.fh
      refine ⟨_, rfl, _, rfl, _, rfl, v, sv, ov, dS, dO, rfl, ts9.same (s2.trans sd), to9.same (s2.trans sd), by omega, by omega, by omega, by omega, by omega, by omega, .inl ⟨d, td.same sd, fun v5 H5 s5 t5 => ?_⟩⟩
      refine ⟨_, rfl, (by show 2 ≤ sizeLine; decide), fun t9 ht9 => ?_⟩
      have s6 := same_new (.tup [.str "store", v]) ht9
      refine ⟨v5, .ref t9, .tuple [.str "store", d], rfl, t5.same s6, .tup upd_same (.cons (.str _) (.cons (td.same ((sd.trans s5).trans s6)) .nil)), ?_, ?_, fun H7 _ => k _⟩
      · show 1 + max 0 (max (dep d) 0) < 40
        omega
      · show 1 + (1 + (siz d + 0)) ≤ 100000
        omega
end
end Fm

/-! ## K08R -/
set_option Elab.async false
set_option maxRecDepth 100000
set_option maxHeartbeats 4000000
namespace Fm
open PySem L2
section
variable {P : Program} {w : World} {K : PySem.W.Frag} {mg : Str → Option Value} {base : Heap}
abbrev s_BadShape_init : Stmt := inClass (topS 13) 0
abbrev sc_BadShape_initN : List Str := ["self", "at"]
abbrev ps_BadShape_init : List Str := ["self", "at"]
theorem sc_BadShape_init : FnScope sc_BadShape_initN ps_BadShape_init (defScope s_BadShape_init) := ⟨rfl, rfl, rfl, by decide +kernel, rfl, by decide +kernel, by decide +kernel⟩
theorem ok_BadShape {f : Addr} {fd : FuncData} (F : Fun K "__init__" "BadShape.__init__" s_BadShape_init f fd) : FnOk P w K mg base CX0 1 f fd ps_BadShape_init (spIn K "at") := by
  refine F.ok sc_BadShape_init (fun vs H Q E h => ?_) (fun cdv A outer s H vs Q E hr h => ?_)
  · obtain ⟨_, _, _, rfl, _⟩ := h
    rfl
  · obtain ⟨a, C, v, rfl, T, ha, hno, k⟩ := h
    exact ⟨_, pss_one (ps_ost (pv 0) (pv 1)), _, rfl, _, rfl, a, C, rfl, T, hno, .inl ⟨ha, fun dx h1 h2 => k dx h1 h2⟩⟩
abbrev s_BadName_init : Stmt := inClass (topS 14) 0
abbrev sc_BadName_initN : List Str := ["self", "value"]
abbrev ps_BadName_init : List Str := ["self", "value"]
theorem sc_BadName_init : FnScope sc_BadName_initN ps_BadName_init (defScope s_BadName_init) := ⟨rfl, rfl, rfl, by decide +kernel, rfl, by decide +kernel, by decide +kernel⟩
theorem ok_BadName {f : Addr} {fd : FuncData} (F : Fun K "__init__" "BadName.__init__" s_BadName_init f fd) : FnOk P w K mg base CX0 1 f fd ps_BadName_init (spIn K "value") := by
  refine F.ok sc_BadName_init (fun vs H Q E h => ?_) (fun cdv A outer s H vs Q E hr h => ?_)
  · obtain ⟨_, _, _, rfl, _⟩ := h
    rfl
  · obtain ⟨a, C, v, rfl, T, ha, hno, k⟩ := h
    exact ⟨_, pss_one (ps_ost (pv 0) (pv 1)), _, rfl, _, rfl, a, C, rfl, T, hno, .inl ⟨ha, fun dx h1 h2 => k dx h1 h2⟩⟩
abbrev s_BadStore_init : Stmt := inClass (topS 15) 0
abbrev sc_BadStore_initN : List Str := ["self", "value"]
abbrev ps_BadStore_init : List Str := ["self", "value"]
theorem sc_BadStore_init : FnScope sc_BadStore_initN ps_BadStore_init (defScope s_BadStore_init) := ⟨rfl, rfl, rfl, by decide +kernel, rfl, by decide +kernel, by decide +kernel⟩
theorem ok_BadStore {f : Addr} {fd : FuncData} (F : Fun K "__init__" "BadStore.__init__" s_BadStore_init f fd) : FnOk P w K mg base CX0 1 f fd ps_BadStore_init (spIn K "value") := by
  refine F.ok sc_BadStore_init (fun vs H Q E h => ?_) (fun cdv A outer s H vs Q E hr h => ?_)
  · obtain ⟨_, _, _, rfl, _⟩ := h
    rfl
  · obtain ⟨a, C, v, rfl, T, ha, hno, k⟩ := h
    exact ⟨_, pss_one (ps_ost (pv 0) (pv 1)), _, rfl, _, rfl, a, C, rfl, T, hno, .inl ⟨ha, fun dx h1 h2 => k dx h1 h2⟩⟩
abbrev s_BadBlock_init : Stmt := inClass (topS 16) 0
abbrev sc_BadBlock_initN : List Str := ["self", "at"]
abbrev ps_BadBlock_init : List Str := ["self", "at"]
theorem sc_BadBlock_init : FnScope sc_BadBlock_initN ps_BadBlock_init (defScope s_BadBlock_init) := ⟨rfl, rfl, rfl, by decide +kernel, rfl, by decide +kernel, by decide +kernel⟩
theorem ok_BadBlock {f : Addr} {fd : FuncData} (F : Fun K "__init__" "BadBlock.__init__" s_BadBlock_init f fd) : FnOk P w K mg base CX0 1 f fd ps_BadBlock_init (spIn K "at") := by
  refine F.ok sc_BadBlock_init (fun vs H Q E h => ?_) (fun cdv A outer s H vs Q E hr h => ?_)
  · obtain ⟨_, _, _, rfl, _⟩ := h
    rfl
  · obtain ⟨a, C, v, rfl, T, ha, hno, k⟩ := h
    exact ⟨_, pss_one (ps_ost (pv 0) (pv 1)), _, rfl, _, rfl, a, C, rfl, T, hno, .inl ⟨ha, fun dx h1 h2 => k dx h1 h2⟩⟩
abbrev s_BadProgram_init : Stmt := inClass (topS 17) 0
abbrev sc_BadProgram_initN : List Str := ["self", "value"]
abbrev ps_BadProgram_init : List Str := ["self", "value"]
theorem sc_BadProgram_init : FnScope sc_BadProgram_initN ps_BadProgram_init (defScope s_BadProgram_init) := ⟨rfl, rfl, rfl, by decide +kernel, rfl, by decide +kernel, by decide +kernel⟩
theorem ok_BadProgram {f : Addr} {fd : FuncData} (F : Fun K "__init__" "BadProgram.__init__" s_BadProgram_init f fd) : FnOk P w K mg base CX0 1 f fd ps_BadProgram_init (spIn K "value") := by
  refine F.ok sc_BadProgram_init (fun vs H Q E h => ?_) (fun cdv A outer s H vs Q E hr h => ?_)
  · obtain ⟨_, _, _, rfl, _⟩ := h
    rfl
  · obtain ⟨a, C, v, rfl, T, ha, hno, k⟩ := h
    exact ⟨_, pss_one (ps_ost (pv 0) (pv 1)), _, rfl, _, rfl, a, C, rfl, T, hno, .inl ⟨ha, fun dx h1 h2 => k dx h1 h2⟩⟩
end
end Fm

/-! ## K08WA -/
set_option Elab.async false
set_option maxRecDepth 100000
set_option maxHeartbeats 4000000
namespace Fm
open PySem L2
/-! ### the table of the parts, as the top has left it -/
def parts8 : List Str := ["scan", "run", "seek", "each", "rise", "look", "same", "put"]
theorem parts_in {z : Str} (h : z ∈ parts8) : partsN z ≠ none := by
  unfold parts8 at h
  simp only [List.mem_cons, List.mem_nil_iff, or_false] at h
  rcases h with rfl | rfl | rfl | rfl | rfl | rfl | rfl | rfl <;> decide
theorem key_is {e : DictEntry} {x : Str × Int} (h : He.keyOf e = some x) : ∃ t, e.key = .str x.1 t := by
  unfold He.keyOf at h
  split at h
  · rename_i y t q
    exact ⟨t, by rw [q, ← Option.some.inj h]⟩
  · cases h
theorem parts_none {K : PySem.W.Frag} {w : World} {a : Addr} (h : He.dicW K a = some (He.keysIn w.params parts8)) : ∀ z, partsN z = none → PySem.W.nsIn K a z = some none := by
  intro z hz
  unfold He.dicW at h
  unfold PySem.W.nsIn
  split at h
  · rename_i c es n sl q
    rw [q]
    split at h
    · have e := Option.some.inj h
      have key : ∀ x ∈ es.toList, ∃ k t, k ∈ parts8 ∧ x.key = .str k t := fun x m => by
        have m2 : He.keyOf x ∈ es.toList.map He.keyOf := List.mem_map.mpr ⟨x, m, rfl⟩
        rw [e] at m2
        obtain ⟨k, mk, ek⟩ := List.mem_map.mp m2
        obtain ⟨t, et⟩ := key_is ek.symm
        exact ⟨k, t, mk, et⟩
      have f : es.toList.find? (·.key.isStr z) = none := by
        rw [List.find?_eq_none]
        intro x m y
        obtain ⟨k, t, mk, ek⟩ := key x m
        rw [ek] at y
        have y2 : k = z := by simpa [Value.isStr] using y
        rw [y2] at mk
        exact parts_in mk hz
      have g : es.toList.any (·.refKey) = false := by
        rw [List.any_eq_false]
        intro x m y
        obtain ⟨k, t, mk, ek⟩ := key x m
        unfold DictEntry.refKey at y
        rw [ek] at y
        exact absurd y (by simp)
      simp only [f, g]
      rfl
    · cases h
  · cases h
end Fm

/-! ## FmErr -/
set_option Elab.async false
set_option maxRecDepth 100000
set_option maxHeartbeats 4000000
/-! What the classes of the own errors say of themselves, for the end of a law. -/
namespace Fm
open PySem L2
def veC : List Value := [.type "ValueError", .type "Exception", .type "BaseException", .type "object"]
/-- what an error's class says of itself -/
def exB (K : PySem.W.Frag) (C : Addr) : Bool :=
  decide (PySem.W.findIn K (.ref C) "__getattribute__" = some (some (.builtin "BaseException.__getattribute__"))) && decide (PySem.W.findIn K (.ref C) "__getattr__" = some none) && decide (PySem.W.subIn K (.ref C) (.type "BaseException") = some true) && PySem.W.hasDictIn K C &&
  decide (PySem.W.findIn K (.ref C) "__class__" = some (some (.builtin "object.__class__"))) && decide (PySem.W.mroIn K C (.type "object") = some true) && decide (PySem.W.typeIn K (.ref C) = some (.type "type")) && PySem.W.keepIn K (.ref C) &&
  decide (PySem.W.findIn K (.ref C) "__setattr__" = some (some (.builtin "object.__setattr__")))
structure ExF (K : PySem.W.Frag) (C : Addr) : Prop where
  ga : PySem.W.findIn K (.ref C) "__getattribute__" = some (some (.builtin "BaseException.__getattribute__"))
  gg : PySem.W.findIn K (.ref C) "__getattr__" = some none
  sb : PySem.W.subIn K (.ref C) (.type "BaseException") = some true
  hd : PySem.W.hasDictIn K C = true
  cc : PySem.W.findIn K (.ref C) "__class__" = some (some (.builtin "object.__class__"))
  mo : PySem.W.mroIn K C (.type "object") = some true
  ty : PySem.W.typeIn K (.ref C) = some (.type "type")
  kp : PySem.W.keepIn K (.ref C) = true
  sa : PySem.W.findIn K (.ref C) "__setattr__" = some (some (.builtin "object.__setattr__"))
theorem exB_ok {K : PySem.W.Frag} {C : Addr} (h : exB K C = true) : ExF K C := by
  simp only [exB, Bool.and_eq_true, decide_eq_true_eq] at h
  obtain ⟨⟨⟨⟨⟨⟨⟨⟨h1, h2⟩, h3⟩, h4⟩, h5⟩, h6⟩, h7⟩, h8⟩, h9⟩ := h
  exact ⟨h1, h2, h3, h4, h5, h6, h7, h8, h9⟩
theorem kbn_one {K : PySem.W.Frag} {fd : FuncData} {f : Str} (h : ∀ u w : Value, bindArgs fd ⟨[u], [(f, w)]⟩ = pure [(("self" : Str), u), (f, w)]) : KBn K fd ["self", f] 1 [f] (fun us ws => us ++ ws) (fun vs zs => vs ++ zs) :=
  ⟨fun s us ws _ l1 l2 => match us, ws, l1, l2 with | [u], [w], _, _ => .of_eq (h u w), fun r1 r2 => r1.append r2⟩
/-- a list of errors: those with a field (and its name), those without; cs: the classes, in this order -/
def errsB (K : PySem.W.Frag) (fs : List (Addr × Str)) (zs : List Addr) : Bool :=
  (fs.all fun p => exB K p.1 && decide (PySem.W.findIn K (.ref p.1) p.2 = some none)) && (zs.all fun c => exB K c && PySem.W.excIn K c veC "ValueError.__new__") &&
  ((List.range (fs.length + zs.length)).all fun i => (List.range (fs.length + zs.length)).all fun j => decide (PySem.W.subIn K (.ref ((fs.map (·.1) ++ zs).getD i 0)) (.ref ((fs.map (·.1) ++ zs).getD j 0)) = some (decide (i = j))))
theorem errs_f {K : PySem.W.Frag} {fs : List (Addr × Str)} {zs : List Addr} (h : errsB K fs zs = true) : ∀ p ∈ fs, ExF K p.1 ∧ PySem.W.findIn K (.ref p.1) p.2 = some none := fun p m => by
  simp only [errsB, Bool.and_eq_true, List.all_eq_true, decide_eq_true_eq] at h
  exact ⟨exB_ok (h.1.1 p m).1, (h.1.1 p m).2⟩
theorem errs_z {K : PySem.W.Frag} {fs : List (Addr × Str)} {zs : List Addr} (h : errsB K fs zs = true) : ∀ c ∈ zs, ExF K c ∧ PySem.W.excIn K c veC "ValueError.__new__" = true := fun p m => by
  simp only [errsB, Bool.and_eq_true, List.all_eq_true, decide_eq_true_eq] at h
  exact ⟨exB_ok (h.1.2 p m).1, (h.1.2 p m).2⟩
theorem errs_s {K : PySem.W.Frag} {fs : List (Addr × Str)} {zs : List Addr} (h : errsB K fs zs = true) (i j : Nat) (hi : i < fs.length + zs.length) (hj : j < fs.length + zs.length) : PySem.W.subIn K (.ref ((fs.map (·.1) ++ zs).getD i 0)) (.ref ((fs.map (·.1) ++ zs).getD j 0)) = some (decide (i = j)) := by
  simp only [errsB, Bool.and_eq_true, List.all_eq_true, decide_eq_true_eq, List.mem_range] at h
  exact h.2 i hi j hj
end Fm

/-! ## K08M -/
set_option Elab.async false
set_option maxRecDepth 100000
set_option maxHeartbeats 16000000
namespace Fm
open PySem L2
/-! ### what the top has written, the head -/
theorem all_mk {l : PySem.W.OpenLaw} {w : World} {K : PySem.W.Frag} {h : Heap} {mg : Str → Option Value} {fa CE CS CG CRd CB CN CBS CBB CBP f0 f1 f2 f3 f4 f5 f6 f7 f8 f9 f10 f11 f12 f13 f14 f15 f16 f17 f18 f19 f20 f21 f22 f23 f24 f25 f26 f27 f28 f29 f30 f31 f32 f33 f34 f35 f36 f37 f38 f39 f40 f41 f42 f43 f44 f45 f46 f47 f48 f49 f50 f51 f52 f53 f54 f55 f56 f57 f58 f59 f60 f61 f62 f63 f64 f65 f66 f67 f68 f69 f70 f71 f72 f73 f74 f75 f76 f77 f78 f79 f80 f81 f82 : Addr} (X : K.In h) (G : h.Ns mainGlobals mg) (hfa : mg "law" = some (.ref fa))
    {od0 an0 od1 an1 od2 an2 od3 an3 od4 an4 od5 an5 od6 an6 od7 an7 od8 an8 od9 an9 od10 an10 od11 an11 od12 an12 od13 an13 od14 an14 od15 an15 od16 an16 od17 an17 od18 an18 od19 an19 od20 an20 od21 an21 od22 an22 od23 an23 od24 an24 od25 an25 od26 an26 od27 an27 od28 an28 od29 an29 od30 an30 od31 an31 od32 an32 od33 an33 od34 an34 od35 an35 od36 an36 od37 an37 od38 an38 od39 an39 od40 an40 od41 an41 od42 an42 od43 an43 od44 an44 od45 an45 od46 an46 od47 an47 od48 an48 od49 an49 od50 an50 od51 an51 od52 an52 od53 an53 od54 an54 od55 an55 od56 an56 od57 an57 od58 an58 od59 an59 od60 an60 od61 an61 od62 an62 od63 an63 od64 an64 od65 an65 od66 an66 od67 an67 od68 an68 od69 an69 od70 an70 od71 an71 od72 an72 od73 an73 od74 an74 od75 an75 od76 an76 od77 an77 od78 an78 od79 an79 od80 an80 od81 an81 od82 an82 : Option Addr}
    {sl0 sl1 sl2 sl3 sl4 sl5 sl6 sl7 sl8 sl9 sl10 sl11 sl12 sl13 sl14 sl15 sl16 sl17 sl18 sl19 sl20 sl21 sl22 sl23 sl24 sl25 sl26 sl27 sl28 sl29 sl30 sl31 sl32 sl33 sl34 sl35 sl36 sl37 sl38 sl39 sl40 sl41 sl42 sl43 sl44 sl45 sl46 sl47 sl48 sl49 sl50 sl51 sl52 sl53 sl54 sl55 sl56 sl57 sl58 sl59 sl60 sl61 sl62 sl63 sl64 sl65 sl66 sl67 sl68 sl69 sl70 sl71 sl72 sl73 sl74 sl75 sl76 sl77 sl78 sl79 sl80 sl81 sl82 : Array (Option Value)}
    {oc0 kV0 dc0 pm0 cd0 ct0 oc1 kV1 dc1 pm1 cd1 ct1 oc2 kV2 dc2 pm2 cd2 ct2 oc3 kV3 dc3 pm3 cd3 ct3 oc4 kV4 dc4 pm4 cd4 ct4 oc5 kV5 dc5 pm5 cd5 ct5 oc6 kV6 dc6 pm6 cd6 ct6 oc7 kV7 dc7 pm7 cd7 ct7 oc8 kV8 dc8 pm8 cd8 ct8 oc9 kV9 dc9 pm9 cd9 ct9 oc10 kV10 dc10 pm10 cd10 ct10 oc11 kV11 dc11 pm11 cd11 ct11 oc12 kV12 dc12 pm12 cd12 ct12 oc13 kV13 dc13 pm13 cd13 ct13 oc14 kV14 dc14 pm14 cd14 ct14 oc15 kV15 dc15 pm15 cd15 ct15 oc16 kV16 dc16 pm16 cd16 ct16 oc17 kV17 dc17 pm17 cd17 ct17 oc18 kV18 dc18 pm18 cd18 ct18 oc19 kV19 dc19 pm19 cd19 ct19 oc20 kV20 dc20 pm20 cd20 ct20 oc21 kV21 dc21 pm21 cd21 ct21 oc22 kV22 dc22 pm22 cd22 ct22 oc23 kV23 dc23 pm23 cd23 ct23 oc24 kV24 dc24 pm24 cd24 ct24 oc25 kV25 dc25 pm25 cd25 ct25 oc26 kV26 dc26 pm26 cd26 ct26 oc27 kV27 dc27 pm27 cd27 ct27 oc28 kV28 dc28 pm28 cd28 ct28 oc29 kV29 dc29 pm29 cd29 ct29 oc30 kV30 dc30 pm30 cd30 ct30 oc31 kV31 dc31 pm31 cd31 ct31 oc32 kV32 dc32 pm32 cd32 ct32 oc33 kV33 dc33 pm33 cd33 ct33 oc34 kV34 dc34 pm34 cd34 ct34 oc35 kV35 dc35 pm35 cd35 ct35 oc36 kV36 dc36 pm36 cd36 ct36 oc37 kV37 dc37 pm37 cd37 ct37 oc38 kV38 dc38 pm38 cd38 ct38 oc39 kV39 dc39 pm39 cd39 ct39 oc40 kV40 dc40 pm40 cd40 ct40 oc41 kV41 dc41 pm41 cd41 ct41 oc42 kV42 dc42 pm42 cd42 ct42 oc43 kV43 dc43 pm43 cd43 ct43 oc44 kV44 dc44 pm44 cd44 ct44 oc45 kV45 dc45 pm45 cd45 ct45 oc46 kV46 dc46 pm46 cd46 ct46 oc47 kV47 dc47 pm47 cd47 ct47 oc48 kV48 dc48 pm48 cd48 ct48 oc49 kV49 dc49 pm49 cd49 ct49 oc50 kV50 dc50 pm50 cd50 ct50 oc51 kV51 dc51 pm51 cd51 ct51 oc52 kV52 dc52 pm52 cd52 ct52 oc53 kV53 dc53 pm53 cd53 ct53 oc54 kV54 dc54 pm54 cd54 ct54 oc55 kV55 dc55 pm55 cd55 ct55 oc56 kV56 dc56 pm56 cd56 ct56 oc57 kV57 dc57 pm57 cd57 ct57 oc58 kV58 dc58 pm58 cd58 ct58 oc59 kV59 dc59 pm59 cd59 ct59 oc60 kV60 dc60 pm60 cd60 ct60 oc61 kV61 dc61 pm61 cd61 ct61 oc62 kV62 dc62 pm62 cd62 ct62 oc63 kV63 dc63 pm63 cd63 ct63 oc64 kV64 dc64 pm64 cd64 ct64 oc65 kV65 dc65 pm65 cd65 ct65 oc66 kV66 dc66 pm66 cd66 ct66 oc67 kV67 dc67 pm67 cd67 ct67 oc68 kV68 dc68 pm68 cd68 ct68 oc69 kV69 dc69 pm69 cd69 ct69 oc70 kV70 dc70 pm70 cd70 ct70 oc71 kV71 dc71 pm71 cd71 ct71 oc72 kV72 dc72 pm72 cd72 ct72 oc73 kV73 dc73 pm73 cd73 ct73 oc74 kV74 dc74 pm74 cd74 ct74 oc75 kV75 dc75 pm75 cd75 ct75 oc76 kV76 dc76 pm76 cd76 ct76 oc77 kV77 dc77 pm77 cd77 ct77 oc78 kV78 dc78 pm78 cd78 ct78 oc79 kV79 dc79 pm79 cd79 ct79 oc80 kV80 dc80 pm80 cd80 ct80 oc81 kV81 dc81 pm81 cd81 ct81 oc82 kV82 dc82 pm82 cd82 ct82 : Value}
    {nm0 qn0 : Str} {N0 : Addr} {bs0 : List Value} {sn0 : List Str} {sub0 : List Value} {ab0 : Bool} {col0 : Option Bool} {dd0 : Option Addr} {m00_ m10_ m20_ m30_ m50_ : Option Value}
    {nm1 qn1 : Str} {N1 : Addr} {bs1 : List Value} {sn1 : List Str} {sub1 : List Value} {ab1 : Bool} {col1 : Option Bool} {dd1 : Option Addr} {m01_ m11_ m21_ m31_ m51_ : Option Value}
    {nm2 qn2 : Str} {N2 : Addr} {bs2 : List Value} {sn2 : List Str} {sub2 : List Value} {ab2 : Bool} {col2 : Option Bool} {dd2 : Option Addr} {m02_ m12_ m22_ m32_ m52_ : Option Value}
    {nm3 qn3 : Str} {N3 : Addr} {bs3 : List Value} {sn3 : List Str} {sub3 : List Value} {ab3 : Bool} {col3 : Option Bool} {dd3 : Option Addr} {m03_ m13_ m23_ m33_ m53_ : Option Value}
    {nm4 qn4 : Str} {N4 : Addr} {bs4 : List Value} {sn4 : List Str} {sub4 : List Value} {ab4 : Bool} {col4 : Option Bool} {dd4 : Option Addr} {m04_ m14_ m24_ m34_ m54_ : Option Value}
    (aC_Shape : PySem.W.nsIn K mainGlobals "Shape" = some (some (.ref CS)))
    (aC_Program : PySem.W.nsIn K mainGlobals "Program" = some (some (.ref CG)))
    (aC_Reader : PySem.W.nsIn K mainGlobals "Reader" = some (some (.ref CRd)))
    (aC_BadShape : PySem.W.nsIn K mainGlobals "BadShape" = some (some (.ref CB)))
    (aC_BadName : PySem.W.nsIn K mainGlobals "BadName" = some (some (.ref CN)))
    (aC_BadStore : PySem.W.nsIn K mainGlobals "BadStore" = some (some (.ref CBS)))
    (aC_BadBlock : PySem.W.nsIn K mainGlobals "BadBlock" = some (some (.ref CBB)))
    (aC_BadProgram : PySem.W.nsIn K mainGlobals "BadProgram" = some (some (.ref CBP)))
    (xL0 : K.lookup CB = some (excClassObj nm0 qn0 CB N0 bs0 [.ref CE, .type "ValueError", .type "Exception", .type "BaseException", .type "object"] true sn0 sub0 ab0 col0 dd0 m00_ m10_ m20_ m30_ m50_ "ValueError.__new__"))
    (xL1 : K.lookup CN = some (excClassObj nm1 qn1 CN N1 bs1 [.ref CE, .type "ValueError", .type "Exception", .type "BaseException", .type "object"] true sn1 sub1 ab1 col1 dd1 m01_ m11_ m21_ m31_ m51_ "ValueError.__new__"))
    (xL2 : K.lookup CBS = some (excClassObj nm2 qn2 CBS N2 bs2 [.ref CE, .type "ValueError", .type "Exception", .type "BaseException", .type "object"] true sn2 sub2 ab2 col2 dd2 m02_ m12_ m22_ m32_ m52_ "ValueError.__new__"))
    (xL3 : K.lookup CBB = some (excClassObj nm3 qn3 CBB N3 bs3 [.ref CE, .type "ValueError", .type "Exception", .type "BaseException", .type "object"] true sn3 sub3 ab3 col3 dd3 m03_ m13_ m23_ m33_ m53_ "ValueError.__new__"))
    (xL4 : K.lookup CBP = some (excClassObj nm4 qn4 CBP N4 bs4 [.ref CE, .type "ValueError", .type "Exception", .type "BaseException", .type "object"] true sn4 sub4 ab4 col4 dd4 m04_ m14_ m24_ m34_ m54_ "ValueError.__new__"))
    (a0 : PySem.W.nsIn K mainGlobals "_law_pick" = some (some (.ref f0)))
    (l0 : K.lookup f0 = some ⟨oc0, od0, .func (PySem.W.fnOf "_law_pick" "_law_pick" (defArgs s_l_pick) (defBody s_l_pick) (defScope s_l_pick) .none kV0 dc0 pm0 an0 cd0 ct0), sl0⟩)
    (c0 : PySem.W.codeIn K cd0 "_law_pick" = true)
    (k0 : PySem.W.keepIn K (.ref f0) = true)
    (a1 : PySem.W.nsIn K mainGlobals "is_name" = some (some (.ref f1)))
    (l1 : K.lookup f1 = some ⟨oc1, od1, .func (PySem.W.fnOf "is_name" "is_name" (defArgs s_is_name) (defBody s_is_name) (defScope s_is_name) .none kV1 dc1 pm1 an1 cd1 ct1), sl1⟩)
    (c1 : PySem.W.codeIn K cd1 "is_name" = true)
    (k1 : PySem.W.keepIn K (.ref f1) = true)
    (a2 : PySem.W.nsIn K mainGlobals "is_row" = some (some (.ref f2)))
    (l2 : K.lookup f2 = some ⟨oc2, od2, .func (PySem.W.fnOf "is_row" "is_row" (defArgs s_is_row) (defBody s_is_row) (defScope s_is_row) .none kV2 dc2 pm2 an2 cd2 ct2), sl2⟩)
    (c2 : PySem.W.codeIn K cd2 "is_row" = true)
    (k2 : PySem.W.keepIn K (.ref f2) = true)
    (a3 : PySem.W.nsIn K mainGlobals "is_tuple" = some (some (.ref f3)))
    (l3 : K.lookup f3 = some ⟨oc3, od3, .func (PySem.W.fnOf "is_tuple" "is_tuple" (defArgs s_is_tuple) (defBody s_is_tuple) (defScope s_is_tuple) .none kV3 dc3 pm3 an3 cd3 ct3), sl3⟩)
    (c3 : PySem.W.codeIn K cd3 "is_tuple" = true)
    (k3 : PySem.W.keepIn K (.ref f3) = true)
    (a4 : PySem.W.nsIn K mainGlobals "are_names" = some (some (.ref f4)))
    (l4 : K.lookup f4 = some ⟨oc4, od4, .func (PySem.W.fnOf "are_names" "are_names" (defArgs s_are_names) (defBody s_are_names) (defScope s_are_names) .none kV4 dc4 pm4 an4 cd4 ct4), sl4⟩)
    (c4 : PySem.W.codeIn K cd4 "are_names" = true)
    (k4 : PySem.W.keepIn K (.ref f4) = true)
    (a5 : PySem.W.nsIn K mainGlobals "as_tuples" = some (some (.ref f5)))
    (l5 : K.lookup f5 = some ⟨oc5, od5, .func (PySem.W.fnOf "as_tuples" "as_tuples" (defArgs s_as_tuples) (defBody s_as_tuples) (defScope s_as_tuples) .none kV5 dc5 pm5 an5 cd5 ct5), sl5⟩)
    (c5 : PySem.W.codeIn K cd5 "as_tuples" = true)
    (k5 : PySem.W.keepIn K (.ref f5) = true)
    (a6 : PySem.W.nsIn K mainGlobals "is_table" = some (some (.ref f6)))
    (l6 : K.lookup f6 = some ⟨oc6, od6, .func (PySem.W.fnOf "is_table" "is_table" (defArgs s_is_table) (defBody s_is_table) (defScope s_is_table) .none kV6 dc6 pm6 an6 cd6 ct6), sl6⟩)
    (c6 : PySem.W.codeIn K cd6 "is_table" = true)
    (k6 : PySem.W.keepIn K (.ref f6) = true)
    (a7 : PySem.W.nsIn K mainGlobals "check_tables" = some (some (.ref f7)))
    (l7 : K.lookup f7 = some ⟨oc7, od7, .func (PySem.W.fnOf "check_tables" "check_tables" (defArgs s_check_tables) (defBody s_check_tables) (defScope s_check_tables) .none kV7 dc7 pm7 an7 cd7 ct7), sl7⟩)
    (c7 : PySem.W.codeIn K cd7 "check_tables" = true)
    (k7 : PySem.W.keepIn K (.ref f7) = true)
    (a8 : PySem.W.findIn K (.ref CS) "__init__" = some (some (.ref f8)))
    (i8 : PySem.W.isFn K (.ref f8) = true)
    (l8 : K.lookup f8 = some ⟨oc8, od8, .func (PySem.W.fnOf "__init__" "Shape.__init__" (defArgs s_Shape_init) (defBody s_Shape_init) (defScope s_Shape_init) .none kV8 dc8 pm8 an8 cd8 ct8), sl8⟩)
    (c8 : PySem.W.codeIn K cd8 "Shape.__init__" = true)
    (k8 : PySem.W.keepIn K (.ref f8) = true)
    (a9 : PySem.W.nsIn K mainGlobals "_law_bag" = some (some (.ref f9)))
    (l9 : K.lookup f9 = some ⟨oc9, od9, .func (PySem.W.fnOf "_law_bag" "_law_bag" (defArgs s_l_bag) (defBody s_l_bag) (defScope s_l_bag) .none kV9 dc9 pm9 an9 cd9 ct9), sl9⟩)
    (c9 : PySem.W.codeIn K cd9 "_law_bag" = true)
    (k9 : PySem.W.keepIn K (.ref f9) = true)
    (a10 : PySem.W.nsIn K mainGlobals "_law_name" = some (some (.ref f10)))
    (l10 : K.lookup f10 = some ⟨oc10, od10, .func (PySem.W.fnOf "_law_name" "_law_name" (defArgs s_l_name) (defBody s_l_name) (defScope s_l_name) .none kV10 dc10 pm10 an10 cd10 ct10), sl10⟩)
    (c10 : PySem.W.codeIn K cd10 "_law_name" = true)
    (k10 : PySem.W.keepIn K (.ref f10) = true)
    (a11 : PySem.W.nsIn K mainGlobals "_law_tables" = some (some (.ref f11)))
    (l11 : K.lookup f11 = some ⟨oc11, od11, .func (PySem.W.fnOf "_law_tables" "_law_tables" (defArgs s_l_tables) (defBody s_l_tables) (defScope s_l_tables) .none kV11 dc11 pm11 an11 cd11 ct11), sl11⟩)
    (c11 : PySem.W.codeIn K cd11 "_law_tables" = true)
    (k11 : PySem.W.keepIn K (.ref f11) = true)
    (a12 : PySem.W.nsIn K mainGlobals "_law_copied" = some (some (.ref f12)))
    (l12 : K.lookup f12 = some ⟨oc12, od12, .func (PySem.W.fnOf "_law_copied" "_law_copied" (defArgs s_l_copied) (defBody s_l_copied) (defScope s_l_copied) .none kV12 dc12 pm12 an12 cd12 ct12), sl12⟩)
    (c12 : PySem.W.codeIn K cd12 "_law_copied" = true)
    (k12 : PySem.W.keepIn K (.ref f12) = true)
    (a13 : PySem.W.nsIn K mainGlobals "_law_alike" = some (some (.ref f13)))
    (l13 : K.lookup f13 = some ⟨oc13, od13, .func (PySem.W.fnOf "_law_alike" "_law_alike" (defArgs s_l_alike) (defBody s_l_alike) (defScope s_l_alike) .none kV13 dc13 pm13 an13 cd13 ct13), sl13⟩)
    (c13 : PySem.W.codeIn K cd13 "_law_alike" = true)
    (k13 : PySem.W.keepIn K (.ref f13) = true)
    (a14 : PySem.W.nsIn K mainGlobals "_law_places" = some (some (.ref f14)))
    (l14 : K.lookup f14 = some ⟨oc14, od14, .func (PySem.W.fnOf "_law_places" "_law_places" (defArgs s_l_places) (defBody s_l_places) (defScope s_l_places) .none kV14 dc14 pm14 an14 cd14 ct14), sl14⟩)
    (c14 : PySem.W.codeIn K cd14 "_law_places" = true)
    (k14 : PySem.W.keepIn K (.ref f14) = true)
    (a15 : PySem.W.nsIn K mainGlobals "_law_at" = some (some (.ref f15)))
    (l15 : K.lookup f15 = some ⟨oc15, od15, .func (PySem.W.fnOf "_law_at" "_law_at" (defArgs s_l_at) (defBody s_l_at) (defScope s_l_at) .none kV15 dc15 pm15 an15 cd15 ct15), sl15⟩)
    (c15 : PySem.W.codeIn K cd15 "_law_at" = true)
    (k15 : PySem.W.keepIn K (.ref f15) = true)
    (a16 : PySem.W.nsIn K mainGlobals "_law_with" = some (some (.ref f16)))
    (l16 : K.lookup f16 = some ⟨oc16, od16, .func (PySem.W.fnOf "_law_with" "_law_with" (defArgs s_l_with) (defBody s_l_with) (defScope s_l_with) .none kV16 dc16 pm16 an16 cd16 ct16), sl16⟩)
    (c16 : PySem.W.codeIn K cd16 "_law_with" = true)
    (k16 : PySem.W.keepIn K (.ref f16) = true)
    (a17 : PySem.W.nsIn K mainGlobals "_law_deep" = some (some (.ref f17)))
    (l17 : K.lookup f17 = some ⟨oc17, od17, .func (PySem.W.fnOf "_law_deep" "_law_deep" (defArgs s_l_deep) (defBody s_l_deep) (defScope s_l_deep) .none kV17 dc17 pm17 an17 cd17 ct17), sl17⟩)
    (c17 : PySem.W.codeIn K cd17 "_law_deep" = true)
    (k17 : PySem.W.keepIn K (.ref f17) = true)
    (a18 : PySem.W.nsIn K mainGlobals "_law_odd" = some (some (.ref f18)))
    (l18 : K.lookup f18 = some ⟨oc18, od18, .func (PySem.W.fnOf "_law_odd" "_law_odd" (defArgs s_l_odd) (defBody s_l_odd) (defScope s_l_odd) .none kV18 dc18 pm18 an18 cd18 ct18), sl18⟩)
    (c18 : PySem.W.codeIn K cd18 "_law_odd" = true)
    (k18 : PySem.W.keepIn K (.ref f18) = true)
    (a19 : PySem.W.nsIn K mainGlobals "_law_other_number" = some (some (.ref f19)))
    (l19 : K.lookup f19 = some ⟨oc19, od19, .func (PySem.W.fnOf "_law_other_number" "_law_other_number" (defArgs s_l_other_number) (defBody s_l_other_number) (defScope s_l_other_number) .none kV19 dc19 pm19 an19 cd19 ct19), sl19⟩)
    (c19 : PySem.W.codeIn K cd19 "_law_other_number" = true)
    (k19 : PySem.W.keepIn K (.ref f19) = true)
    (a20 : PySem.W.nsIn K mainGlobals "_law_other_string" = some (some (.ref f20)))
    (l20 : K.lookup f20 = some ⟨oc20, od20, .func (PySem.W.fnOf "_law_other_string" "_law_other_string" (defArgs s_l_other_string) (defBody s_l_other_string) (defScope s_l_other_string) .none kV20 dc20 pm20 an20 cd20 ct20), sl20⟩)
    (c20 : PySem.W.codeIn K cd20 "_law_other_string" = true)
    (k20 : PySem.W.keepIn K (.ref f20) = true)
    (a21 : PySem.W.nsIn K mainGlobals "_law_other_row" = some (some (.ref f21)))
    (l21 : K.lookup f21 = some ⟨oc21, od21, .func (PySem.W.fnOf "_law_other_row" "_law_other_row" (defArgs s_l_other_row) (defBody s_l_other_row) (defScope s_l_other_row) .none kV21 dc21 pm21 an21 cd21 ct21), sl21⟩)
    (c21 : PySem.W.codeIn K cd21 "_law_other_row" = true)
    (k21 : PySem.W.keepIn K (.ref f21) = true)
    (a22 : PySem.W.nsIn K mainGlobals "_law_integer" = some (some (.ref f22)))
    (l22 : K.lookup f22 = some ⟨oc22, od22, .func (PySem.W.fnOf "_law_integer" "_law_integer" (defArgs s_l_integer) (defBody s_l_integer) (defScope s_l_integer) .none kV22 dc22 pm22 an22 cd22 ct22), sl22⟩)
    (c22 : PySem.W.codeIn K cd22 "_law_integer" = true)
    (k22 : PySem.W.keepIn K (.ref f22) = true)
    (a23 : PySem.W.nsIn K mainGlobals "_law_spoiled" = some (some (.ref f23)))
    (l23 : K.lookup f23 = some ⟨oc23, od23, .func (PySem.W.fnOf "_law_spoiled" "_law_spoiled" (defArgs s_l_spoiled) (defBody s_l_spoiled) (defScope s_l_spoiled) .none kV23 dc23 pm23 an23 cd23 ct23), sl23⟩)
    (c23 : PySem.W.codeIn K cd23 "_law_spoiled" = true)
    (k23 : PySem.W.keepIn K (.ref f23) = true)
    (a24 : PySem.W.nsIn K mainGlobals "_law_row" = some (some (.ref f24)))
    (l24 : K.lookup f24 = some ⟨oc24, od24, .func (PySem.W.fnOf "_law_row" "_law_row" (defArgs s_l_row) (defBody s_l_row) (defScope s_l_row) .none kV24 dc24 pm24 an24 cd24 ct24), sl24⟩)
    (c24 : PySem.W.codeIn K cd24 "_law_row" = true)
    (k24 : PySem.W.keepIn K (.ref f24) = true)
    (a25 : PySem.W.nsIn K mainGlobals "_law_word" = some (some (.ref f25)))
    (l25 : K.lookup f25 = some ⟨oc25, od25, .func (PySem.W.fnOf "_law_word" "_law_word" (defArgs s_l_word) (defBody s_l_word) (defScope s_l_word) .none kV25 dc25 pm25 an25 cd25 ct25), sl25⟩)
    (c25 : PySem.W.codeIn K cd25 "_law_word" = true)
    (k25 : PySem.W.keepIn K (.ref f25) = true)
    (a26 : PySem.W.nsIn K mainGlobals "_law_words" = some (some (.ref f26)))
    (l26 : K.lookup f26 = some ⟨oc26, od26, .func (PySem.W.fnOf "_law_words" "_law_words" (defArgs s_l_words) (defBody s_l_words) (defScope s_l_words) .none kV26 dc26 pm26 an26 cd26 ct26), sl26⟩)
    (c26 : PySem.W.codeIn K cd26 "_law_words" = true)
    (k26 : PySem.W.keepIn K (.ref f26) = true)
    (a27 : PySem.W.nsIn K mainGlobals "is_integer" = some (some (.ref f27)))
    (l27 : K.lookup f27 = some ⟨oc27, od27, .func (PySem.W.fnOf "is_integer" "is_integer" (defArgs s_is_integer) (defBody s_is_integer) (defScope s_is_integer) .none kV27 dc27 pm27 an27 cd27 ct27), sl27⟩)
    (c27 : PySem.W.codeIn K cd27 "is_integer" = true)
    (k27 : PySem.W.keepIn K (.ref f27) = true)
    (a28 : PySem.W.nsIn K mainGlobals "is_value" = some (some (.ref f28)))
    (l28 : K.lookup f28 = some ⟨oc28, od28, .func (PySem.W.fnOf "is_value" "is_value" (defArgs s_is_value) (defBody s_is_value) (defScope s_is_value) .none kV28 dc28 pm28 an28 cd28 ct28), sl28⟩)
    (c28 : PySem.W.codeIn K cd28 "is_value" = true)
    (k28 : PySem.W.keepIn K (.ref f28) = true)
    (a29 : PySem.W.nsIn K mainGlobals "is_multiple" = some (some (.ref f29)))
    (l29 : K.lookup f29 = some ⟨oc29, od29, .func (PySem.W.fnOf "is_multiple" "is_multiple" (defArgs s_is_multiple) (defBody s_is_multiple) (defScope s_is_multiple) .none kV29 dc29 pm29 an29 cd29 ct29), sl29⟩)
    (c29 : PySem.W.codeIn K cd29 "is_multiple" = true)
    (k29 : PySem.W.keepIn K (.ref f29) = true)
    (a30 : PySem.W.nsIn K mainGlobals "has_parts" = some (some (.ref f30)))
    (l30 : K.lookup f30 = some ⟨oc30, od30, .func (PySem.W.fnOf "has_parts" "has_parts" (defArgs s_has_parts) (defBody s_has_parts) (defScope s_has_parts) .none kV30 dc30 pm30 an30 cd30 ct30), sl30⟩)
    (c30 : PySem.W.codeIn K cd30 "has_parts" = true)
    (k30 : PySem.W.keepIn K (.ref f30) = true)
    (a31 : PySem.W.nsIn K mainGlobals "goes_over_entries" = some (some (.ref f31)))
    (l31 : K.lookup f31 = some ⟨oc31, od31, .func (PySem.W.fnOf "goes_over_entries" "goes_over_entries" (defArgs s_goes_over_entries) (defBody s_goes_over_entries) (defScope s_goes_over_entries) .none kV31 dc31 pm31 an31 cd31 ct31), sl31⟩)
    (c31 : PySem.W.codeIn K cd31 "goes_over_entries" = true)
    (k31 : PySem.W.keepIn K (.ref f31) = true)
    (a32 : PySem.W.nsIn K mainGlobals "fields_of_table" = some (some (.ref f32)))
    (l32 : K.lookup f32 = some ⟨oc32, od32, .func (PySem.W.fnOf "fields_of_table" "fields_of_table" (defArgs s_fields_of_table) (defBody s_fields_of_table) (defScope s_fields_of_table) .none kV32 dc32 pm32 an32 cd32 ct32), sl32⟩)
    (c32 : PySem.W.codeIn K cd32 "fields_of_table" = true)
    (k32 : PySem.W.keepIn K (.ref f32) = true)
    (a33 : PySem.W.nsIn K mainGlobals "is_place" = some (some (.ref f33)))
    (l33 : K.lookup f33 = some ⟨oc33, od33, .func (PySem.W.fnOf "is_place" "is_place" (defArgs s_is_place) (defBody s_is_place) (defScope s_is_place) .none kV33 dc33 pm33 an33 cd33 ct33), sl33⟩)
    (c33 : PySem.W.codeIn K cd33 "is_place" = true)
    (k33 : PySem.W.keepIn K (.ref f33) = true)
    (a34 : PySem.W.nsIn K mainGlobals "is_term" = some (some (.ref f34)))
    (l34 : K.lookup f34 = some ⟨oc34, od34, .func (PySem.W.fnOf "is_term" "is_term" (defArgs s_is_term) (defBody s_is_term) (defScope s_is_term) .none kV34 dc34 pm34 an34 cd34 ct34), sl34⟩)
    (c34 : PySem.W.codeIn K cd34 "is_term" = true)
    (k34 : PySem.W.keepIn K (.ref f34) = true)
    (a35 : PySem.W.nsIn K mainGlobals "are_terms" = some (some (.ref f35)))
    (l35 : K.lookup f35 = some ⟨oc35, od35, .func (PySem.W.fnOf "are_terms" "are_terms" (defArgs s_are_terms) (defBody s_are_terms) (defScope s_are_terms) .none kV35 dc35 pm35 an35 cd35 ct35), sl35⟩)
    (c35 : PySem.W.codeIn K cd35 "are_terms" = true)
    (k35 : PySem.W.keepIn K (.ref f35) = true)
    (a36 : PySem.W.nsIn K mainGlobals "has_sum_of" = some (some (.ref f36)))
    (l36 : K.lookup f36 = some ⟨oc36, od36, .func (PySem.W.fnOf "has_sum_of" "has_sum_of" (defArgs s_has_sum_of) (defBody s_has_sum_of) (defScope s_has_sum_of) .none kV36 dc36 pm36 an36 cd36 ct36), sl36⟩)
    (c36 : PySem.W.codeIn K cd36 "has_sum_of" = true)
    (k36 : PySem.W.keepIn K (.ref f36) = true)
    (a37 : PySem.W.nsIn K mainGlobals "is_product" = some (some (.ref f37)))
    (l37 : K.lookup f37 = some ⟨oc37, od37, .func (PySem.W.fnOf "is_product" "is_product" (defArgs s_is_product) (defBody s_is_product) (defScope s_is_product) .none kV37 dc37 pm37 an37 cd37 ct37), sl37⟩)
    (c37 : PySem.W.codeIn K cd37 "is_product" = true)
    (k37 : PySem.W.keepIn K (.ref f37) = true)
    (a38 : PySem.W.nsIn K mainGlobals "are_products" = some (some (.ref f38)))
    (l38 : K.lookup f38 = some ⟨oc38, od38, .func (PySem.W.fnOf "are_products" "are_products" (defArgs s_are_products) (defBody s_are_products) (defScope s_are_products) .none kV38 dc38 pm38 an38 cd38 ct38), sl38⟩)
    (c38 : PySem.W.codeIn K cd38 "are_products" = true)
    (k38 : PySem.W.keepIn K (.ref f38) = true)
    (a39 : PySem.W.findIn K (.ref CRd) "has_block" = some (some (.ref f39)))
    (i39 : PySem.W.isFn K (.ref f39) = true)
    (l39 : K.lookup f39 = some ⟨oc39, od39, .func (PySem.W.fnOf "has_block" "Reader.has_block" (defArgs s_Reader_has_block) (defBody s_Reader_has_block) (defScope s_Reader_has_block) .none kV39 dc39 pm39 an39 cd39 ct39), sl39⟩)
    (c39 : PySem.W.codeIn K cd39 "Reader.has_block" = true)
    (k39 : PySem.W.keepIn K (.ref f39) = true)
    (a40 : PySem.W.findIn K (.ref CRd) "rows_fit" = some (some (.ref f40)))
    (i40 : PySem.W.isFn K (.ref f40) = true)
    (l40 : K.lookup f40 = some ⟨oc40, od40, .func (PySem.W.fnOf "rows_fit" "Reader.rows_fit" (defArgs s_Reader_rows_fit) (defBody s_Reader_rows_fit) (defScope s_Reader_rows_fit) .none kV40 dc40 pm40 an40 cd40 ct40), sl40⟩)
    (c40 : PySem.W.codeIn K cd40 "Reader.rows_fit" = true)
    (k40 : PySem.W.keepIn K (.ref f40) = true)
    (a41 : PySem.W.findIn K (.ref CRd) "entries_fit" = some (some (.ref f41)))
    (i41 : PySem.W.isFn K (.ref f41) = true)
    (l41 : K.lookup f41 = some ⟨oc41, od41, .func (PySem.W.fnOf "entries_fit" "Reader.entries_fit" (defArgs s_Reader_entries_fit) (defBody s_Reader_entries_fit) (defScope s_Reader_entries_fit) .none kV41 dc41 pm41 an41 cd41 ct41), sl41⟩)
    (c41 : PySem.W.codeIn K cd41 "Reader.entries_fit" = true)
    (k41 : PySem.W.keepIn K (.ref f41) = true)
    (a42 : PySem.W.findIn K (.ref CRd) "put_fits" = some (some (.ref f42)))
    (i42 : PySem.W.isFn K (.ref f42) = true)
    (l42 : K.lookup f42 = some ⟨oc42, od42, .func (PySem.W.fnOf "put_fits" "Reader.put_fits" (defArgs s_Reader_put_fits) (defBody s_Reader_put_fits) (defScope s_Reader_put_fits) .none kV42 dc42 pm42 an42 cd42 ct42), sl42⟩)
    (c42 : PySem.W.codeIn K cd42 "Reader.put_fits" = true)
    (k42 : PySem.W.keepIn K (.ref f42) = true)
    (a43 : PySem.W.findIn K (.ref CRd) "fits" = some (some (.ref f43)))
    (i43 : PySem.W.isFn K (.ref f43) = true)
    (l43 : K.lookup f43 = some ⟨oc43, od43, .func (PySem.W.fnOf "fits" "Reader.fits" (defArgs s_Reader_fits) (defBody s_Reader_fits) (defScope s_Reader_fits) .none kV43 dc43 pm43 an43 cd43 ct43), sl43⟩)
    (c43 : PySem.W.codeIn K cd43 "Reader.fits" = true)
    (k43 : PySem.W.keepIn K (.ref f43) = true)
    (a44 : PySem.W.findIn K (.ref CRd) "note" = some (some (.ref f44)))
    (i44 : PySem.W.isFn K (.ref f44) = true)
    (l44 : K.lookup f44 = some ⟨oc44, od44, .func (PySem.W.fnOf "note" "Reader.note" (defArgs s_Reader_note) (defBody s_Reader_note) (defScope s_Reader_note) .none kV44 dc44 pm44 an44 cd44 ct44), sl44⟩)
    (c44 : PySem.W.codeIn K cd44 "Reader.note" = true)
    (k44 : PySem.W.keepIn K (.ref f44) = true)
    (a45 : PySem.W.findIn K (.ref CS) "fields_of" = some (some (.ref f45)))
    (i45 : PySem.W.isFn K (.ref f45) = true)
    (l45 : K.lookup f45 = some ⟨oc45, od45, .func (PySem.W.fnOf "fields_of" "Shape.fields_of" (defArgs s_Shape_fields_of) (defBody s_Shape_fields_of) (defScope s_Shape_fields_of) .none kV45 dc45 pm45 an45 cd45 ct45), sl45⟩)
    (c45 : PySem.W.codeIn K cd45 "Shape.fields_of" = true)
    (k45 : PySem.W.keepIn K (.ref f45) = true)
    (a46 : PySem.W.findIn K (.ref CRd) "within" = some (some (.ref f46)))
    (i46 : PySem.W.isFn K (.ref f46) = true)
    (l46 : K.lookup f46 = some ⟨oc46, od46, .func (PySem.W.fnOf "within" "Reader.within" (defArgs s_Reader_within) (defBody s_Reader_within) (defScope s_Reader_within) .none kV46 dc46 pm46 an46 cd46 ct46), sl46⟩)
    (c46 : PySem.W.codeIn K cd46 "Reader.within" = true)
    (k46 : PySem.W.keepIn K (.ref f46) = true)
    (a47 : PySem.W.findIn K (.ref CRd) "read_body" = some (some (.ref f47)))
    (i47 : PySem.W.isFn K (.ref f47) = true)
    (l47 : K.lookup f47 = some ⟨oc47, od47, .func (PySem.W.fnOf "read_body" "Reader.read_body" (defArgs s_Reader_read_body) (defBody s_Reader_read_body) (defScope s_Reader_read_body) .none kV47 dc47 pm47 an47 cd47 ct47), sl47⟩)
    (c47 : PySem.W.codeIn K cd47 "Reader.read_body" = true)
    (k47 : PySem.W.keepIn K (.ref f47) = true)
    (a48 : PySem.W.nsIn K mainGlobals "is_block" = some (some (.ref f48)))
    (l48 : K.lookup f48 = some ⟨oc48, od48, .func (PySem.W.fnOf "is_block" "is_block" (defArgs s_is_block) (defBody s_is_block) (defScope s_is_block) .none kV48 dc48 pm48 an48 cd48 ct48), sl48⟩)
    (c48 : PySem.W.codeIn K cd48 "is_block" = true)
    (k48 : PySem.W.keepIn K (.ref f48) = true)
    (a49 : PySem.W.nsIn K mainGlobals "check_blocks" = some (some (.ref f49)))
    (l49 : K.lookup f49 = some ⟨oc49, od49, .func (PySem.W.fnOf "check_blocks" "check_blocks" (defArgs s_check_blocks) (defBody s_check_blocks) (defScope s_check_blocks) .none kV49 dc49 pm49 an49 cd49 ct49), sl49⟩)
    (c49 : PySem.W.codeIn K cd49 "check_blocks" = true)
    (k49 : PySem.W.keepIn K (.ref f49) = true)
    (a50 : PySem.W.findIn K (.ref CRd) "__init__" = some (some (.ref f50)))
    (i50 : PySem.W.isFn K (.ref f50) = true)
    (l50 : K.lookup f50 = some ⟨oc50, od50, .func (PySem.W.fnOf "__init__" "Reader.__init__" (defArgs s_Reader_init) (defBody s_Reader_init) (defScope s_Reader_init) .none kV50 dc50 pm50 an50 cd50 ct50), sl50⟩)
    (c50 : PySem.W.codeIn K cd50 "Reader.__init__" = true)
    (k50 : PySem.W.keepIn K (.ref f50) = true)
    (a51 : PySem.W.findIn K (.ref CG) "__init__" = some (some (.ref f51)))
    (i51 : PySem.W.isFn K (.ref f51) = true)
    (l51 : K.lookup f51 = some ⟨oc51, od51, .func (PySem.W.fnOf "__init__" "Program.__init__" (defArgs s_Program_init) (defBody s_Program_init) (defScope s_Program_init) .none kV51 dc51 pm51 an51 cd51 ct51), sl51⟩)
    (c51 : PySem.W.codeIn K cd51 "Program.__init__" = true)
    (k51 : PySem.W.keepIn K (.ref f51) = true)
    (a52 : PySem.W.nsIn K mainGlobals "_law_within" = some (some (.ref f52)))
    (l52 : K.lookup f52 = some ⟨oc52, od52, .func (PySem.W.fnOf "_law_within" "_law_within" (defArgs s_l_within) (defBody s_l_within) (defScope s_l_within) .none kV52 dc52 pm52 an52 cd52 ct52), sl52⟩)
    (c52 : PySem.W.codeIn K cd52 "_law_within" = true)
    (k52 : PySem.W.keepIn K (.ref f52) = true)
    (a53 : PySem.W.nsIn K mainGlobals "_law_blocks_due" = some (some (.ref f53)))
    (l53 : K.lookup f53 = some ⟨oc53, od53, .func (PySem.W.fnOf "_law_blocks_due" "_law_blocks_due" (defArgs s_l_blocks_due) (defBody s_l_blocks_due) (defScope s_l_blocks_due) .none kV53 dc53 pm53 an53 cd53 ct53), sl53⟩)
    (c53 : PySem.W.codeIn K cd53 "_law_blocks_due" = true)
    (k53 : PySem.W.keepIn K (.ref f53) = true)
    (a54 : PySem.W.nsIn K mainGlobals "_law_form" = some (some (.ref f54)))
    (l54 : K.lookup f54 = some ⟨oc54, od54, .func (PySem.W.fnOf "_law_form" "_law_form" (defArgs s_l_form) (defBody s_l_form) (defScope s_l_form) .none kV54 dc54 pm54 an54 cd54 ct54), sl54⟩)
    (c54 : PySem.W.codeIn K cd54 "_law_form" = true)
    (k54 : PySem.W.keepIn K (.ref f54) = true)
    (a55 : PySem.W.nsIn K mainGlobals "_law_named_row" = some (some (.ref f55)))
    (l55 : K.lookup f55 = some ⟨oc55, od55, .func (PySem.W.fnOf "_law_named_row" "_law_named_row" (defArgs s_l_named_row) (defBody s_l_named_row) (defScope s_l_named_row) .none kV55 dc55 pm55 an55 cd55 ct55), sl55⟩)
    (c55 : PySem.W.codeIn K cd55 "_law_named_row" = true)
    (k55 : PySem.W.keepIn K (.ref f55) = true)
    (a56 : PySem.W.nsIn K mainGlobals "_law_names_there" = some (some (.ref f56)))
    (l56 : K.lookup f56 = some ⟨oc56, od56, .func (PySem.W.fnOf "_law_names_there" "_law_names_there" (defArgs s_l_names_there) (defBody s_l_names_there) (defScope s_l_names_there) .none kV56 dc56 pm56 an56 cd56 ct56), sl56⟩)
    (c56 : PySem.W.codeIn K cd56 "_law_names_there" = true)
    (k56 : PySem.W.keepIn K (.ref f56) = true)
    (a57 : PySem.W.nsIn K mainGlobals "_law_reads" = some (some (.ref f57)))
    (l57 : K.lookup f57 = some ⟨oc57, od57, .func (PySem.W.fnOf "_law_reads" "_law_reads" (defArgs s_l_reads) (defBody s_l_reads) (defScope s_l_reads) .none kV57 dc57 pm57 an57 cd57 ct57), sl57⟩)
    (c57 : PySem.W.codeIn K cd57 "_law_reads" = true)
    (k57 : PySem.W.keepIn K (.ref f57) = true)
    (a58 : PySem.W.nsIn K mainGlobals "_law_right_term" = some (some (.ref f58)))
    (l58 : K.lookup f58 = some ⟨oc58, od58, .func (PySem.W.fnOf "_law_right_term" "_law_right_term" (defArgs s_l_right_term) (defBody s_l_right_term) (defScope s_l_right_term) .none kV58 dc58 pm58 an58 cd58 ct58), sl58⟩)
    (c58 : PySem.W.codeIn K cd58 "_law_right_term" = true)
    (k58 : PySem.W.keepIn K (.ref f58) = true)
    (a59 : PySem.W.nsIn K mainGlobals "_law_right_terms" = some (some (.ref f59)))
    (l59 : K.lookup f59 = some ⟨oc59, od59, .func (PySem.W.fnOf "_law_right_terms" "_law_right_terms" (defArgs s_l_right_terms) (defBody s_l_right_terms) (defScope s_l_right_terms) .none kV59 dc59 pm59 an59 cd59 ct59), sl59⟩)
    (c59 : PySem.W.codeIn K cd59 "_law_right_terms" = true)
    (k59 : PySem.W.keepIn K (.ref f59) = true)
    (a60 : PySem.W.nsIn K mainGlobals "_law_right_product" = some (some (.ref f60)))
    (l60 : K.lookup f60 = some ⟨oc60, od60, .func (PySem.W.fnOf "_law_right_product" "_law_right_product" (defArgs s_l_right_product) (defBody s_l_right_product) (defScope s_l_right_product) .none kV60 dc60 pm60 an60 cd60 ct60), sl60⟩)
    (c60 : PySem.W.codeIn K cd60 "_law_right_product" = true)
    (k60 : PySem.W.keepIn K (.ref f60) = true)
    (a61 : PySem.W.nsIn K mainGlobals "_law_flat" = some (some (.ref f61)))
    (l61 : K.lookup f61 = some ⟨oc61, od61, .func (PySem.W.fnOf "_law_flat" "_law_flat" (defArgs s_l_flat) (defBody s_l_flat) (defScope s_l_flat) .none kV61 dc61 pm61 an61 cd61 ct61), sl61⟩)
    (c61 : PySem.W.codeIn K cd61 "_law_flat" = true)
    (k61 : PySem.W.keepIn K (.ref f61) = true)
    (a62 : PySem.W.nsIn K mainGlobals "_law_tops_ahead" = some (some (.ref f62)))
    (l62 : K.lookup f62 = some ⟨oc62, od62, .func (PySem.W.fnOf "_law_tops_ahead" "_law_tops_ahead" (defArgs s_l_tops_ahead) (defBody s_l_tops_ahead) (defScope s_l_tops_ahead) .none kV62 dc62 pm62 an62 cd62 ct62), sl62⟩)
    (c62 : PySem.W.codeIn K cd62 "_law_tops_ahead" = true)
    (k62 : PySem.W.keepIn K (.ref f62) = true)
    (a63 : PySem.W.nsIn K mainGlobals "_law_right_loop" = some (some (.ref f63)))
    (l63 : K.lookup f63 = some ⟨oc63, od63, .func (PySem.W.fnOf "_law_right_loop" "_law_right_loop" (defArgs s_l_right_loop) (defBody s_l_right_loop) (defScope s_l_right_loop) .none kV63 dc63 pm63 an63 cd63 ct63), sl63⟩)
    (c63 : PySem.W.codeIn K cd63 "_law_right_loop" = true)
    (k63 : PySem.W.keepIn K (.ref f63) = true)
    (a64 : PySem.W.nsIn K mainGlobals "_law_right_put" = some (some (.ref f64)))
    (l64 : K.lookup f64 = some ⟨oc64, od64, .func (PySem.W.fnOf "_law_right_put" "_law_right_put" (defArgs s_l_right_put) (defBody s_l_right_put) (defScope s_l_right_put) .none kV64 dc64 pm64 an64 cd64 ct64), sl64⟩)
    (c64 : PySem.W.codeIn K cd64 "_law_right_put" = true)
    (k64 : PySem.W.keepIn K (.ref f64) = true)
    (a65 : PySem.W.nsIn K mainGlobals "_law_right_statement" = some (some (.ref f65)))
    (l65 : K.lookup f65 = some ⟨oc65, od65, .func (PySem.W.fnOf "_law_right_statement" "_law_right_statement" (defArgs s_l_right_statement) (defBody s_l_right_statement) (defScope s_l_right_statement) .none kV65 dc65 pm65 an65 cd65 ct65), sl65⟩)
    (c65 : PySem.W.codeIn K cd65 "_law_right_statement" = true)
    (k65 : PySem.W.keepIn K (.ref f65) = true)
    (a66 : PySem.W.nsIn K mainGlobals "_law_wrong_path" = some (some (.ref f66)))
    (l66 : K.lookup f66 = some ⟨oc66, od66, .func (PySem.W.fnOf "_law_wrong_path" "_law_wrong_path" (defArgs s_l_wrong_path) (defBody s_l_wrong_path) (defScope s_l_wrong_path) .none kV66 dc66 pm66 an66 cd66 ct66), sl66⟩)
    (c66 : PySem.W.codeIn K cd66 "_law_wrong_path" = true)
    (k66 : PySem.W.keepIn K (.ref f66) = true)
    (a67 : PySem.W.nsIn K mainGlobals "_law_tupled" = some (some (.ref f67)))
    (l67 : K.lookup f67 = some ⟨oc67, od67, .func (PySem.W.fnOf "_law_tupled" "_law_tupled" (defArgs s_l_tupled) (defBody s_l_tupled) (defScope s_l_tupled) .none kV67 dc67 pm67 an67 cd67 ct67), sl67⟩)
    (c67 : PySem.W.codeIn K cd67 "_law_tupled" = true)
    (k67 : PySem.W.keepIn K (.ref f67) = true)
    (a68 : PySem.W.nsIn K mainGlobals "_law_made" = some (some (.ref f68)))
    (l68 : K.lookup f68 = some ⟨oc68, od68, .func (PySem.W.fnOf "_law_made" "_law_made" (defArgs s_l_made) (defBody s_l_made) (defScope s_l_made) .none kV68 dc68 pm68 an68 cd68 ct68), sl68⟩)
    (c68 : PySem.W.codeIn K cd68 "_law_made" = true)
    (k68 : PySem.W.keepIn K (.ref f68) = true)
    (a69 : PySem.W.findIn K (.ref CS) "__eq__" = some (some (.ref f69)))
    (i69 : PySem.W.isFn K (.ref f69) = true)
    (l69 : K.lookup f69 = some ⟨oc69, od69, .func (PySem.W.fnOf "__eq__" "Shape.__eq__" (defArgs s_Shape_eq) (defBody s_Shape_eq) (defScope s_Shape_eq) .none kV69 dc69 pm69 an69 cd69 ct69), sl69⟩)
    (c69 : PySem.W.codeIn K cd69 "Shape.__eq__" = true)
    (k69 : PySem.W.keepIn K (.ref f69) = true)
    (a70 : PySem.W.nsIn K mainGlobals "_law_program_due" = some (some (.ref f70)))
    (l70 : K.lookup f70 = some ⟨oc70, od70, .func (PySem.W.fnOf "_law_program_due" "_law_program_due" (defArgs s_l_program_due) (defBody s_l_program_due) (defScope s_l_program_due) .none kV70 dc70 pm70 an70 cd70 ct70), sl70⟩)
    (c70 : PySem.W.codeIn K cd70 "_law_program_due" = true)
    (k70 : PySem.W.keepIn K (.ref f70) = true)
    (a71 : PySem.W.nsIn K mainGlobals "_law_tells_program" = some (some (.ref f71)))
    (l71 : K.lookup f71 = some ⟨oc71, od71, .func (PySem.W.fnOf "_law_tells_program" "_law_tells_program" (defArgs s_l_tells_program) (defBody s_l_tells_program) (defScope s_l_tells_program) .none kV71 dc71 pm71 an71 cd71 ct71), sl71⟩)
    (c71 : PySem.W.codeIn K cd71 "_law_tells_program" = true)
    (k71 : PySem.W.keepIn K (.ref f71) = true)
    (a72 : PySem.W.nsIn K mainGlobals "_law_judged" = some (some (.ref f72)))
    (l72 : K.lookup f72 = some ⟨oc72, od72, .func (PySem.W.fnOf "_law_judged" "_law_judged" (defArgs s_l_judged) (defBody s_l_judged) (defScope s_l_judged) .none kV72 dc72 pm72 an72 cd72 ct72), sl72⟩)
    (c72 : PySem.W.codeIn K cd72 "_law_judged" = true)
    (k72 : PySem.W.keepIn K (.ref f72) = true)
    (a73 : PySem.W.nsIn K mainGlobals "_law_blocks" = some (some (.ref f73)))
    (l73 : K.lookup f73 = some ⟨oc73, od73, .func (PySem.W.fnOf "_law_blocks" "_law_blocks" (defArgs s_l_blocks) (defBody s_l_blocks) (defScope s_l_blocks) .none kV73 dc73 pm73 an73 cd73 ct73), sl73⟩)
    (c73 : PySem.W.codeIn K cd73 "_law_blocks" = true)
    (k73 : PySem.W.keepIn K (.ref f73) = true)
    (a74 : PySem.W.nsIn K mainGlobals "_law_all_names" = some (some (.ref f74)))
    (l74 : K.lookup f74 = some ⟨oc74, od74, .func (PySem.W.fnOf "_law_all_names" "_law_all_names" (defArgs s_l_all_names) (defBody s_l_all_names) (defScope s_l_all_names) .none kV74 dc74 pm74 an74 cd74 ct74), sl74⟩)
    (c74 : PySem.W.codeIn K cd74 "_law_all_names" = true)
    (k74 : PySem.W.keepIn K (.ref f74) = true)
    (a75 : PySem.W.nsIn K mainGlobals "_law_plain_body" = some (some (.ref f75)))
    (l75 : K.lookup f75 = some ⟨oc75, od75, .func (PySem.W.fnOf "_law_plain_body" "_law_plain_body" (defArgs s_l_plain_body) (defBody s_l_plain_body) (defScope s_l_plain_body) .none kV75 dc75 pm75 an75 cd75 ct75), sl75⟩)
    (c75 : PySem.W.codeIn K cd75 "_law_plain_body" = true)
    (k75 : PySem.W.keepIn K (.ref f75) = true)
    (a76 : PySem.W.findIn K (.ref CB) "__init__" = some (some (.ref f76)))
    (t76 : PySem.W.typeIn K (.ref f76) = some (.type "function"))
    (l76 : K.lookup f76 = some ⟨oc76, od76, .func (PySem.W.fnOf "__init__" "BadShape.__init__" (defArgs s_BadShape_init) (defBody s_BadShape_init) (defScope s_BadShape_init) .none kV76 dc76 pm76 an76 cd76 ct76), sl76⟩)
    (c76 : PySem.W.codeIn K cd76 "BadShape.__init__" = true)
    (k76 : PySem.W.keepIn K (.ref f76) = true)
    (a77 : PySem.W.findIn K (.ref CN) "__init__" = some (some (.ref f77)))
    (t77 : PySem.W.typeIn K (.ref f77) = some (.type "function"))
    (l77 : K.lookup f77 = some ⟨oc77, od77, .func (PySem.W.fnOf "__init__" "BadName.__init__" (defArgs s_BadName_init) (defBody s_BadName_init) (defScope s_BadName_init) .none kV77 dc77 pm77 an77 cd77 ct77), sl77⟩)
    (c77 : PySem.W.codeIn K cd77 "BadName.__init__" = true)
    (k77 : PySem.W.keepIn K (.ref f77) = true)
    (a78 : PySem.W.findIn K (.ref CBS) "__init__" = some (some (.ref f78)))
    (t78 : PySem.W.typeIn K (.ref f78) = some (.type "function"))
    (l78 : K.lookup f78 = some ⟨oc78, od78, .func (PySem.W.fnOf "__init__" "BadStore.__init__" (defArgs s_BadStore_init) (defBody s_BadStore_init) (defScope s_BadStore_init) .none kV78 dc78 pm78 an78 cd78 ct78), sl78⟩)
    (c78 : PySem.W.codeIn K cd78 "BadStore.__init__" = true)
    (k78 : PySem.W.keepIn K (.ref f78) = true)
    (a79 : PySem.W.findIn K (.ref CBB) "__init__" = some (some (.ref f79)))
    (t79 : PySem.W.typeIn K (.ref f79) = some (.type "function"))
    (l79 : K.lookup f79 = some ⟨oc79, od79, .func (PySem.W.fnOf "__init__" "BadBlock.__init__" (defArgs s_BadBlock_init) (defBody s_BadBlock_init) (defScope s_BadBlock_init) .none kV79 dc79 pm79 an79 cd79 ct79), sl79⟩)
    (c79 : PySem.W.codeIn K cd79 "BadBlock.__init__" = true)
    (k79 : PySem.W.keepIn K (.ref f79) = true)
    (a80 : PySem.W.findIn K (.ref CBP) "__init__" = some (some (.ref f80)))
    (t80 : PySem.W.typeIn K (.ref f80) = some (.type "function"))
    (l80 : K.lookup f80 = some ⟨oc80, od80, .func (PySem.W.fnOf "__init__" "BadProgram.__init__" (defArgs s_BadProgram_init) (defBody s_BadProgram_init) (defScope s_BadProgram_init) .none kV80 dc80 pm80 an80 cd80 ct80), sl80⟩)
    (c80 : PySem.W.codeIn K cd80 "BadProgram.__init__" = true)
    (k80 : PySem.W.keepIn K (.ref f80) = true)
    (a81 : PySem.W.findIn K (.ref CRd) "read_statement" = some (some (.ref f81)))
    (i81 : PySem.W.isFn K (.ref f81) = true)
    (l81 : K.lookup f81 = some ⟨oc81, od81, .func (PySem.W.fnOf "read_statement" "Reader.read_statement" (defArgs s_Reader_read_statement) (defBody s_Reader_read_statement) (defScope s_Reader_read_statement) .none kV81 dc81 pm81 an81 cd81 ct81), sl81⟩)
    (c81 : PySem.W.codeIn K cd81 "Reader.read_statement" = true)
    (k81 : PySem.W.keepIn K (.ref f81) = true)
    (a82 : PySem.W.nsIn K mainGlobals "law" = some (some (.ref f82)))
    (l82 : K.lookup f82 = some ⟨oc82, od82, .func (PySem.W.fnOf "law" "law" (defArgs s_law) (defBody s_law) (defScope s_law) .none kV82 dc82 pm82 an82 cd82 ct82), sl82⟩)
    (c82 : PySem.W.codeIn K cd82 "law" = true)
    (k82 : PySem.W.keepIn K (.ref f82) = true)
    (pg_Shape : PySem.W.plainGet K CS Str.empty = true)
    (hd_Shape : PySem.W.hasDictIn K CS = true)
    (po_Shape : PySem.W.plainOver K CS = true)
    (sa_Shape : PySem.W.findIn K (.ref CS) "__setattr__" = some (some (.builtin "object.__setattr__")))
    (mk_Shape : PySem.W.makesIn K CS = true)
    (kc_Shape : PySem.W.keepIn K (.ref CS) = true)
    (n_Shape_tables : PySem.W.findIn K (.ref CS) "tables" = some none)
    (pg_Program : PySem.W.plainGet K CG Str.empty = true)
    (hd_Program : PySem.W.hasDictIn K CG = true)
    (po_Program : PySem.W.plainOver K CG = true)
    (sa_Program : PySem.W.findIn K (.ref CG) "__setattr__" = some (some (.builtin "object.__setattr__")))
    (mk_Program : PySem.W.makesIn K CG = true)
    (kc_Program : PySem.W.keepIn K (.ref CG) = true)
    (n_Program_shape : PySem.W.findIn K (.ref CG) "shape" = some none)
    (n_Program_blocks : PySem.W.findIn K (.ref CG) "blocks" = some none)
    (n_Program_body : PySem.W.findIn K (.ref CG) "body" = some none)
    (pg_Reader : PySem.W.plainGet K CRd Str.empty = true)
    (hd_Reader : PySem.W.hasDictIn K CRd = true)
    (po_Reader : PySem.W.plainOver K CRd = true)
    (sa_Reader : PySem.W.findIn K (.ref CRd) "__setattr__" = some (some (.builtin "object.__setattr__")))
    (mk_Reader : PySem.W.makesIn K CRd = true)
    (kc_Reader : PySem.W.keepIn K (.ref CRd) = true)
    (n_Reader_shape : PySem.W.findIn K (.ref CRd) "shape" = some none)
    (n_Reader_blocks : PySem.W.findIn K (.ref CRd) "blocks" = some none)
    (n_Reader_many : PySem.W.findIn K (.ref CRd) "many" = some none)
    (n_Reader_tops : PySem.W.findIn K (.ref CRd) "tops" = some none)
    (n_Reader_asked : PySem.W.findIn K (.ref CRd) "asked" = some none)
    (z_len : PySem.W.nsIn K mainGlobals "len" = some none)
    (z_list : PySem.W.nsIn K mainGlobals "list" = some none)
    (z_tuple : PySem.W.nsIn K mainGlobals "tuple" = some none)
    (z_isinstance : PySem.W.nsIn K mainGlobals "isinstance" = some none)
    (z_str : PySem.W.nsIn K mainGlobals "str" = some none)
    (z_dict : PySem.W.nsIn K mainGlobals "dict" = some none)
    (z_bool : PySem.W.nsIn K mainGlobals "bool" = some none)
    (z_int : PySem.W.nsIn K mainGlobals "int" = some none)
    (z_max : PySem.W.nsIn K mainGlobals "max" = some none)
    (z_all : PySem.W.nsIn K mainGlobals "all" = some none)
    (z_set : PySem.W.nsIn K mainGlobals "set" = some none)
    (z_range : PySem.W.nsIn K mainGlobals "range" = some none)
    (z_enumerate : PySem.W.nsIn K mainGlobals "enumerate" = some none)
    (z_min : PySem.W.nsIn K mainGlobals "min" = some none)
    (z_any : PySem.W.nsIn K mainGlobals "any" = some none)
    (g_LETTERS : PySem.W.nsIn K mainGlobals "LETTERS" = some (some (.str "abcdefghijklmnopqrstuvwxyz" tg0)))
    (g_LONGEST_NAME : PySem.W.nsIn K mainGlobals "LONGEST_NAME" = some (some (.int 8 tg1)))
    (g_MOST_TABLES : PySem.W.nsIn K mainGlobals "MOST_TABLES" = some (some (.int 5 tg2)))
    (g_MOST_FIELDS : PySem.W.nsIn K mainGlobals "MOST_FIELDS" = some (some (.int 4 tg3)))
    (g_LARGEST_VALUE : PySem.W.nsIn K mainGlobals "LARGEST_VALUE" = some (some (.int 1000000000 tg4)))
    (g_MOST_BLOCKS : PySem.W.nsIn K mainGlobals "MOST_BLOCKS" = some (some (.int 6 tg5)))
    (g_MOST_KEYS : PySem.W.nsIn K mainGlobals "MOST_KEYS" = some (some (.int 3 tg6)))
    (g_MOST_SUMS : PySem.W.nsIn K mainGlobals "MOST_SUMS" = some (some (.int 3 tg7)))
    (g_MOST_FACTORS : PySem.W.nsIn K mainGlobals "MOST_FACTORS" = some (some (.int 3 tg8)))
    (g_MOST_PRODUCTS : PySem.W.nsIn K mainGlobals "MOST_PRODUCTS" = some (some (.int 4 tg9)))
    (g_LARGEST_MULTIPLE : PySem.W.nsIn K mainGlobals "LARGEST_MULTIPLE" = some (some (.int 1000 tga)))
    (g_MOST_TOP_STATEMENTS : PySem.W.nsIn K mainGlobals "MOST_TOP_STATEMENTS" = some (some (.int 12 tgb)))
    (g_MOST_IN_A_BODY : PySem.W.nsIn K mainGlobals "MOST_IN_A_BODY" = some (some (.int 8 tgc)))
    (g_DEEPEST : PySem.W.nsIn K mainGlobals "DEEPEST" = some (some (.int 8 tgd)))
    (g_MOST_STATEMENTS : PySem.W.nsIn K mainGlobals "MOST_STATEMENTS" = some (some (.int 40 tge)))
    (ccls : PySem.W.findIn K (.ref CS) "__class__" = some (some (.builtin "object.__class__")))
    (cget : PySem.W.specialIn K (.builtin "object.__class__") "__get__" = some (some (.builtin "getset_descriptor.__get__")))
    (ctak : PySem.W.takesIn K (.builtin "object.__class__") = some true)
    (cmro : PySem.W.mroIn K CS (.type "object") = some true)
    (cne : PySem.W.findIn K (.ref CS) "__ne__" = some (some (.builtin "object.__ne__")))
    (ki_NoneType : PySem.W.kitOne K (.type "NoneType") (.ref CS) = some false)
    (ki_bool : PySem.W.kitOne K (.type "bool") (.ref CS) = some false)
    (ki_int : PySem.W.kitOne K (.type "int") (.ref CS) = some false)
    (ki_str : PySem.W.kitOne K (.type "str") (.ref CS) = some false)
    (ki_list : PySem.W.kitOne K (.type "list") (.ref CS) = some false)
    (ki_tuple : PySem.W.kitOne K (.type "tuple") (.ref CS) = some false)
    (ki_dict : PySem.W.kitOne K (.type "dict") (.ref CS) = some false)
    (nf_NoneType : PySem.W.notFirst K CS (.type "NoneType") = true)
    (nf_bool : PySem.W.notFirst K CS (.type "bool") = true)
    (nf_int : PySem.W.notFirst K CS (.type "int") = true)
    (nf_str : PySem.W.notFirst K CS (.type "str") = true)
    (nf_list : PySem.W.notFirst K CS (.type "list") = true)
    (nf_tuple : PySem.W.notFirst K CS (.type "tuple") = true)
    (nf_dict : PySem.W.notFirst K CS (.type "dict") = true)
    (gP : PySem.W.nsIn K mainGlobals "PARTS" = some (some (.ref PD)))
    (dW : He.dicW K PD = some (He.keysIn w.params parts8))
    (p_scan : PySem.W.nsIn K PD "scan" = some (some (.int 4 tp_scan)))
    (p_run : PySem.W.nsIn K PD "run" = some (some (.int 5 tp_run)))
    (p_seek : PySem.W.nsIn K PD "seek" = some (some (.int 6 tp_seek)))
    (p_each : PySem.W.nsIn K PD "each" = some (some (.int 4 tp_each)))
    (p_rise : PySem.W.nsIn K PD "rise" = some (some (.int 5 tp_rise)))
    (p_look : PySem.W.nsIn K PD "look" = some (some (.int 5 tp_look)))
    (p_same : PySem.W.nsIn K PD "same" = some (some (.int 4 tp_same)))
    (p_put : PySem.W.nsIn K PD "put" = some (some (.int 4 tp_put)))
    (errs : errsB K [(CB, "at"), (CN, "value"), (CBS, "value"), (CBB, "at"), (CBP, "value")] [] = true) :
    ∃ fd : FuncData, (∀ (s : Shared) (v : Value), BindsTo s fd ⟨[v], []⟩ [("_law_script", v)]) ∧ ∀ base : Heap, K.In base → base.Ns mainGlobals mg → FnOk l.prog w K mg base CX0 46 fa fd ["_law_script"] (spLaw K) := by
  have e := hfa.symm.trans (PySem.W.mg_of X G a82)
  cases e
  have F0 := fun_mk (st := s_l_pick) l0 c0 k0
  have b0 := F0.binds (ps := ps_l_pick) fun _ _ _ _ _ _ us hl => match us, hl with | [_, _], _ => rfl
  have F1 := fun_mk (st := s_is_name) l1 c1 k1
  have b1 := F1.binds (ps := ps_is_name) fun _ _ _ _ _ _ us hl => match us, hl with | [_], _ => rfl
  have F2 := fun_mk (st := s_is_row) l2 c2 k2
  have b2 := F2.binds (ps := ps_is_row) fun _ _ _ _ _ _ us hl => match us, hl with | [_, _, _], _ => rfl
  have F3 := fun_mk (st := s_is_tuple) l3 c3 k3
  have b3 := F3.binds (ps := ps_is_tuple) fun _ _ _ _ _ _ us hl => match us, hl with | [_, _], _ => rfl
  have F4 := fun_mk (st := s_are_names) l4 c4 k4
  have b4 := F4.binds (ps := ps_are_names) fun _ _ _ _ _ _ us hl => match us, hl with | [_, _, _], _ => rfl
  have F5 := fun_mk (st := s_as_tuples) l5 c5 k5
  have b5 := F5.binds (ps := ps_as_tuples) fun _ _ _ _ _ _ us hl => match us, hl with | [_], _ => rfl
  have F6 := fun_mk (st := s_is_table) l6 c6 k6
  have b6 := F6.binds (ps := ps_is_table) fun _ _ _ _ _ _ us hl => match us, hl with | [_], _ => rfl
  have F7 := fun_mk (st := s_check_tables) l7 c7 k7
  have b7 := F7.binds (ps := ps_check_tables) fun _ _ _ _ _ _ us hl => match us, hl with | [_], _ => rfl
  have F8 := fun_mk (st := s_Shape_init) l8 c8 k8
  have b8 := F8.binds (ps := ps_Shape_init) fun _ _ _ _ _ _ us hl => match us, hl with | [_, _], _ => rfl
  have F9 := fun_mk (st := s_l_bag) l9 c9 k9
  have b9 := F9.binds (ps := ps_l_bag) fun _ _ _ _ _ _ us hl => match us, hl with | [_], _ => rfl
  have F10 := fun_mk (st := s_l_name) l10 c10 k10
  have b10 := F10.binds (ps := ps_l_name) fun _ _ _ _ _ _ us hl => match us, hl with | [_, _], _ => rfl
  have F11 := fun_mk (st := s_l_tables) l11 c11 k11
  have b11 := F11.binds (ps := ps_l_tables) fun _ _ _ _ _ _ us hl => match us, hl with | [_], _ => rfl
  have F12 := fun_mk (st := s_l_copied) l12 c12 k12
  have b12 := F12.binds (ps := ps_l_copied) fun _ _ _ _ _ _ us hl => match us, hl with | [_], _ => rfl
  have F13 := fun_mk (st := s_l_alike) l13 c13 k13
  have b13 := F13.binds (ps := ps_l_alike) fun _ _ _ _ _ _ us hl => match us, hl with | [_, _], _ => rfl
  have F14 := fun_mk (st := s_l_places) l14 c14 k14
  have b14 := F14.binds (ps := ps_l_places) fun _ _ _ _ _ _ us hl => match us, hl with | [_, _], _ => rfl
  have F15 := fun_mk (st := s_l_at) l15 c15 k15
  have b15 := F15.binds (ps := ps_l_at) fun _ _ _ _ _ _ us hl => match us, hl with | [_, _], _ => rfl
  have F16 := fun_mk (st := s_l_with) l16 c16 k16
  have b16 := F16.binds (ps := ps_l_with) fun _ _ _ _ _ _ us hl => match us, hl with | [_, _, _], _ => rfl
  have F17 := fun_mk (st := s_l_deep) l17 c17 k17
  have b17 := F17.binds (ps := ps_l_deep) fun _ _ _ _ _ _ us hl => match us, hl with | [_], _ => rfl
  have F18 := fun_mk (st := s_l_odd) l18 c18 k18
  have b18 := F18.binds (ps := ps_l_odd) fun _ _ _ _ _ _ us hl => match us, hl with | [_], _ => rfl
  have F19 := fun_mk (st := s_l_other_number) l19 c19 k19
  have b19 := F19.binds (ps := ps_l_other_number) fun _ _ _ _ _ _ us hl => match us, hl with | [_, _], _ => rfl
  have F20 := fun_mk (st := s_l_other_string) l20 c20 k20
  have b20 := F20.binds (ps := ps_l_other_string) fun _ _ _ _ _ _ us hl => match us, hl with | [_, _], _ => rfl
  have F21 := fun_mk (st := s_l_other_row) l21 c21 k21
  have b21 := F21.binds (ps := ps_l_other_row) fun _ _ _ _ _ _ us hl => match us, hl with | [_, _], _ => rfl
  have F22 := fun_mk (st := s_l_integer) l22 c22 k22
  have b22 := F22.binds (ps := ps_l_integer) fun _ _ _ _ _ _ us hl => match us, hl with | [_], _ => rfl
  have F23 := fun_mk (st := s_l_spoiled) l23 c23 k23
  have b23 := F23.binds (ps := ps_l_spoiled) fun _ _ _ _ _ _ us hl => match us, hl with | [_, _, _], _ => rfl
  have F24 := fun_mk (st := s_l_row) l24 c24 k24
  have b24 := F24.binds (ps := ps_l_row) fun _ _ _ _ _ _ us hl => match us, hl with | [_], _ => rfl
  have F25 := fun_mk (st := s_l_word) l25 c25 k25
  have b25 := F25.binds (ps := ps_l_word) fun _ _ _ _ _ _ us hl => match us, hl with | [_], _ => rfl
  have F26 := fun_mk (st := s_l_words) l26 c26 k26
  have b26 := F26.binds (ps := ps_l_words) fun _ _ _ _ _ _ us hl => match us, hl with | [_, _, _], _ => rfl
  have F27 := fun_mk (st := s_is_integer) l27 c27 k27
  have b27 := F27.binds (ps := ps_is_integer) fun _ _ _ _ _ _ us hl => match us, hl with | [_], _ => rfl
  have F28 := fun_mk (st := s_is_value) l28 c28 k28
  have b28 := F28.binds (ps := ps_is_value) fun _ _ _ _ _ _ us hl => match us, hl with | [_], _ => rfl
  have F29 := fun_mk (st := s_is_multiple) l29 c29 k29
  have b29 := F29.binds (ps := ps_is_multiple) fun _ _ _ _ _ _ us hl => match us, hl with | [_], _ => rfl
  have F30 := fun_mk (st := s_has_parts) l30 c30 k30
  have b30 := F30.binds (ps := ps_has_parts) fun _ _ _ _ _ _ us hl => match us, hl with | [_], _ => rfl
  have F31 := fun_mk (st := s_goes_over_entries) l31 c31 k31
  have b31 := F31.binds (ps := ps_goes_over_entries) fun _ _ _ _ _ _ us hl => match us, hl with | [_], _ => rfl
  have F32 := fun_mk (st := s_fields_of_table) l32 c32 k32
  have b32 := F32.binds (ps := ps_fields_of_table) fun _ _ _ _ _ _ us hl => match us, hl with | [_, _], _ => rfl
  have F33 := fun_mk (st := s_is_place) l33 c33 k33
  have b33 := F33.binds (ps := ps_is_place) fun _ _ _ _ _ _ us hl => match us, hl with | [_, _], _ => rfl
  have F34 := fun_mk (st := s_is_term) l34 c34 k34
  have b34 := F34.binds (ps := ps_is_term) fun _ _ _ _ _ _ us hl => match us, hl with | [_, _], _ => rfl
  have F35 := fun_mk (st := s_are_terms) l35 c35 k35
  have b35 := F35.binds (ps := ps_are_terms) fun _ _ _ _ _ _ us hl => match us, hl with | [_, _, _], _ => rfl
  have F36 := fun_mk (st := s_has_sum_of) l36 c36 k36
  have b36 := F36.binds (ps := ps_has_sum_of) fun _ _ _ _ _ _ us hl => match us, hl with | [_, _, _], _ => rfl
  have F37 := fun_mk (st := s_is_product) l37 c37 k37
  have b37 := F37.binds (ps := ps_is_product) fun _ _ _ _ _ _ us hl => match us, hl with | [_, _], _ => rfl
  have F38 := fun_mk (st := s_are_products) l38 c38 k38
  have b38 := F38.binds (ps := ps_are_products) fun _ _ _ _ _ _ us hl => match us, hl with | [_, _], _ => rfl
  have F39 := fun_mk (st := s_Reader_has_block) l39 c39 k39
  have b39 := F39.binds (ps := ps_Reader_has_block) fun _ _ _ _ _ _ us hl => match us, hl with | [_, _], _ => rfl
  have F40 := fun_mk (st := s_Reader_rows_fit) l40 c40 k40
  have b40 := F40.binds (ps := ps_Reader_rows_fit) fun _ _ _ _ _ _ us hl => match us, hl with | [_, _, _], _ => rfl
  have F41 := fun_mk (st := s_Reader_entries_fit) l41 c41 k41
  have b41 := F41.binds (ps := ps_Reader_entries_fit) fun _ _ _ _ _ _ us hl => match us, hl with | [_, _, _, _], _ => rfl
  have F42 := fun_mk (st := s_Reader_put_fits) l42 c42 k42
  have b42 := F42.binds (ps := ps_Reader_put_fits) fun _ _ _ _ _ _ us hl => match us, hl with | [_, _, _, _], _ => rfl
  have F43 := fun_mk (st := s_Reader_fits) l43 c43 k43
  have b43 := F43.binds (ps := ps_Reader_fits) fun _ _ _ _ _ _ us hl => match us, hl with | [_, _, _, _], _ => rfl
  have F44 := fun_mk (st := s_Reader_note) l44 c44 k44
  have b44 := F44.binds (ps := ps_Reader_note) fun _ _ _ _ _ _ us hl => match us, hl with | [_, _, _], _ => rfl
  have F45 := fun_mk (st := s_Shape_fields_of) l45 c45 k45
  have b45 := F45.binds (ps := ps_Shape_fields_of) fun _ _ _ _ _ _ us hl => match us, hl with | [_, _], _ => rfl
  have F46 := fun_mk (st := s_Reader_within) l46 c46 k46
  have b46 := F46.binds (ps := ps_Reader_within) fun _ _ _ _ _ _ us hl => match us, hl with | [_, _, _], _ => rfl
  have F47 := fun_mk (st := s_Reader_read_body) l47 c47 k47
  have b47 := F47.binds (ps := ps_Reader_read_body) fun _ _ _ _ _ _ us hl => match us, hl with | [_, _, _, _], _ => rfl
  have F48 := fun_mk (st := s_is_block) l48 c48 k48
  have b48 := F48.binds (ps := ps_is_block) fun _ _ _ _ _ _ us hl => match us, hl with | [_], _ => rfl
  have F49 := fun_mk (st := s_check_blocks) l49 c49 k49
  have b49 := F49.binds (ps := ps_check_blocks) fun _ _ _ _ _ _ us hl => match us, hl with | [_, _], _ => rfl
  have F50 := fun_mk (st := s_Reader_init) l50 c50 k50
  have b50 := F50.binds (ps := ps_Reader_init) fun _ _ _ _ _ _ us hl => match us, hl with | [_, _, _], _ => rfl
  have F51 := fun_mk (st := s_Program_init) l51 c51 k51
  have b51 := F51.binds (ps := ps_Program_init) fun _ _ _ _ _ _ us hl => match us, hl with | [_, _, _, _], _ => rfl
  have F52 := fun_mk (st := s_l_within) l52 c52 k52
  have b52 := F52.binds (ps := ps_l_within) fun _ _ _ _ _ _ us hl => match us, hl with | [_, _, _], _ => rfl
  have F53 := fun_mk (st := s_l_blocks_due) l53 c53 k53
  have b53 := F53.binds (ps := ps_l_blocks_due) fun _ _ _ _ _ _ us hl => match us, hl with | [_, _], _ => rfl
  have F54 := fun_mk (st := s_l_form) l54 c54 k54
  have b54 := F54.binds (ps := ps_l_form) fun _ _ _ _ _ _ us hl => match us, hl with | [_], _ => rfl
  have F55 := fun_mk (st := s_l_named_row) l55 c55 k55
  have b55 := F55.binds (ps := ps_l_named_row) fun _ _ _ _ _ _ us hl => match us, hl with | [_, _], _ => rfl
  have F56 := fun_mk (st := s_l_names_there) l56 c56 k56
  have b56 := F56.binds (ps := ps_l_names_there) fun _ _ _ _ _ _ us hl => match us, hl with | [_, _, _], _ => rfl
  have F57 := fun_mk (st := s_l_reads) l57 c57 k57
  have b57 := F57.binds (ps := ps_l_reads) fun _ _ _ _ _ _ us hl => match us, hl with | [_, _, _, _], _ => rfl
  have F58 := fun_mk (st := s_l_right_term) l58 c58 k58
  have b58 := F58.binds (ps := ps_l_right_term) fun _ _ _ _ _ _ us hl => match us, hl with | [_, _, _], _ => rfl
  have F59 := fun_mk (st := s_l_right_terms) l59 c59 k59
  have b59 := F59.binds (ps := ps_l_right_terms) fun _ _ _ _ _ _ us hl => match us, hl with | [_, _, _, _], _ => rfl
  have F60 := fun_mk (st := s_l_right_product) l60 c60 k60
  have b60 := F60.binds (ps := ps_l_right_product) fun _ _ _ _ _ _ us hl => match us, hl with | [_, _, _], _ => rfl
  have F61 := fun_mk (st := s_l_flat) l61 c61 k61
  have b61 := F61.binds (ps := ps_l_flat) fun _ _ _ _ _ _ us hl => match us, hl with | [_, _, _, _], _ => rfl
  have F62 := fun_mk (st := s_l_tops_ahead) l62 c62 k62
  have b62 := F62.binds (ps := ps_l_tops_ahead) fun _ _ _ _ _ _ us hl => match us, hl with | [_, _, _], _ => rfl
  have F63 := fun_mk (st := s_l_right_loop) l63 c63 k63
  have b63 := F63.binds (ps := ps_l_right_loop) fun _ _ _ _ _ _ us hl => match us, hl with | [_, _, _], _ => rfl
  have F64 := fun_mk (st := s_l_right_put) l64 c64 k64
  have b64 := F64.binds (ps := ps_l_right_put) fun _ _ _ _ _ _ us hl => match us, hl with | [_, _, _], _ => rfl
  have F65 := fun_mk (st := s_l_right_statement) l65 c65 k65
  have b65 := F65.binds (ps := ps_l_right_statement) fun _ _ _ _ _ _ us hl => match us, hl with | [_, _, _], _ => rfl
  have F66 := fun_mk (st := s_l_wrong_path) l66 c66 k66
  have b66 := F66.binds (ps := ps_l_wrong_path) fun _ _ _ _ _ _ us hl => match us, hl with | [_, _, _], _ => rfl
  have F67 := fun_mk (st := s_l_tupled) l67 c67 k67
  have b67 := F67.binds (ps := ps_l_tupled) fun _ _ _ _ _ _ us hl => match us, hl with | [_], _ => rfl
  have F68 := fun_mk (st := s_l_made) l68 c68 k68
  have b68 := F68.binds (ps := ps_l_made) fun _ _ _ _ _ _ us hl => match us, hl with | [_, _, _], _ => rfl
  have F69 := fun_mk (st := s_Shape_eq) l69 c69 k69
  have b69 := F69.binds (ps := ps_Shape_eq) fun _ _ _ _ _ _ us hl => match us, hl with | [_, _], _ => rfl
  have F70 := fun_mk (st := s_l_program_due) l70 c70 k70
  have b70 := F70.binds (ps := ps_l_program_due) fun _ _ _ _ _ _ us hl => match us, hl with | [_, _, _], _ => rfl
  have F71 := fun_mk (st := s_l_tells_program) l71 c71 k71
  have b71 := F71.binds (ps := ps_l_tells_program) fun _ _ _ _ _ _ us hl => match us, hl with | [_, _, _, _], _ => rfl
  have F72 := fun_mk (st := s_l_judged) l72 c72 k72
  have b72 := F72.binds (ps := ps_l_judged) fun _ _ _ _ _ _ us hl => match us, hl with | [_, _, _, _], _ => rfl
  have F73 := fun_mk (st := s_l_blocks) l73 c73 k73
  have b73 := F73.binds (ps := ps_l_blocks) fun _ _ _ _ _ _ us hl => match us, hl with | [_, _, _], _ => rfl
  have F74 := fun_mk (st := s_l_all_names) l74 c74 k74
  have b74 := F74.binds (ps := ps_l_all_names) fun _ _ _ _ _ _ us hl => match us, hl with | [_], _ => rfl
  have F75 := fun_mk (st := s_l_plain_body) l75 c75 k75
  have b75 := F75.binds (ps := ps_l_plain_body) fun _ _ _ _ _ _ us hl => match us, hl with | [_, _, _], _ => rfl
  have F76 := fun_mk (st := s_BadShape_init) l76 c76 k76
  have b76 := F76.binds (ps := ps_BadShape_init) fun _ _ _ _ _ _ us hl => match us, hl with | [_, _], _ => rfl
  have F77 := fun_mk (st := s_BadName_init) l77 c77 k77
  have b77 := F77.binds (ps := ps_BadName_init) fun _ _ _ _ _ _ us hl => match us, hl with | [_, _], _ => rfl
  have F78 := fun_mk (st := s_BadStore_init) l78 c78 k78
  have b78 := F78.binds (ps := ps_BadStore_init) fun _ _ _ _ _ _ us hl => match us, hl with | [_, _], _ => rfl
  have F79 := fun_mk (st := s_BadBlock_init) l79 c79 k79
  have b79 := F79.binds (ps := ps_BadBlock_init) fun _ _ _ _ _ _ us hl => match us, hl with | [_, _], _ => rfl
  have F80 := fun_mk (st := s_BadProgram_init) l80 c80 k80
  have b80 := F80.binds (ps := ps_BadProgram_init) fun _ _ _ _ _ _ us hl => match us, hl with | [_, _], _ => rfl
  have F81 := fun_mk (st := s_Reader_read_statement) l81 c81 k81
  have b81 := F81.binds (ps := ps_Reader_read_statement) fun _ _ _ _ _ _ us hl => match us, hl with | [_, _, _, _], _ => rfl
  have F82 := fun_mk (st := s_law) l82 c82 k82
  have b82 := F82.binds (ps := ps_law) fun _ _ _ _ _ _ us hl => match us, hl with | [_], _ => rfl
  refine ⟨PySem.W.fnOf "law" "law" (defArgs s_law) (defBody s_law) (defScope s_law) .none kV82 dc82 pm82 an82 cd82 ct82, fun s v => .of_eq rfl, fun base _ _ => ?_⟩
  obtain ⟨E_BadShape, nf_BadShape⟩ := errs_f errs (CB, "at") (by simp)
  obtain ⟨E_BadName, nf_BadName⟩ := errs_f errs (CN, "value") (by simp)
  obtain ⟨E_BadStore, nf_BadStore⟩ := errs_f errs (CBS, "value") (by simp)
  obtain ⟨E_BadBlock, nf_BadBlock⟩ := errs_f errs (CBB, "at") (by simp)
  obtain ⟨E_BadProgram, nf_BadProgram⟩ := errs_f errs (CBP, "value") (by simp)
  have X_BadShape : Xf l.prog w K mg base "BadShape" CB "at" := ⟨f76, _, ⟨⟨_, _, _, _, _, _, _, _, _, _, _, _, _, _, _, xL0, rfl⟩, E_BadShape.sa, E_BadShape.sb, E_BadShape.ty, E_BadShape.kp⟩, a76, t76, ok_BadShape F76, PySem.W.mg_of X G aC_BadShape, b76, kbn_one fun _ _ => rfl, nf_BadShape⟩
  have X_BadName : Xf l.prog w K mg base "BadName" CN "value" := ⟨f77, _, ⟨⟨_, _, _, _, _, _, _, _, _, _, _, _, _, _, _, xL1, rfl⟩, E_BadName.sa, E_BadName.sb, E_BadName.ty, E_BadName.kp⟩, a77, t77, ok_BadName F77, PySem.W.mg_of X G aC_BadName, b77, kbn_one fun _ _ => rfl, nf_BadName⟩
  have X_BadStore : Xf l.prog w K mg base "BadStore" CBS "value" := ⟨f78, _, ⟨⟨_, _, _, _, _, _, _, _, _, _, _, _, _, _, _, xL2, rfl⟩, E_BadStore.sa, E_BadStore.sb, E_BadStore.ty, E_BadStore.kp⟩, a78, t78, ok_BadStore F78, PySem.W.mg_of X G aC_BadStore, b78, kbn_one fun _ _ => rfl, nf_BadStore⟩
  have X_BadBlock : Xf l.prog w K mg base "BadBlock" CBB "at" := ⟨f79, _, ⟨⟨_, _, _, _, _, _, _, _, _, _, _, _, _, _, _, xL3, rfl⟩, E_BadBlock.sa, E_BadBlock.sb, E_BadBlock.ty, E_BadBlock.kp⟩, a79, t79, ok_BadBlock F79, PySem.W.mg_of X G aC_BadBlock, b79, kbn_one fun _ _ => rfl, nf_BadBlock⟩
  have X_BadProgram : Xf l.prog w K mg base "BadProgram" CBP "value" := ⟨f80, _, ⟨⟨_, _, _, _, _, _, _, _, _, _, _, _, _, _, _, xL4, rfl⟩, E_BadProgram.sa, E_BadProgram.sb, E_BadProgram.ty, E_BadProgram.kp⟩, a80, t80, ok_BadProgram F80, PySem.W.mg_of X G aC_BadProgram, b80, kbn_one fun _ _ => rfl, nf_BadProgram⟩
  have T : Txt K mg CS := ⟨PySem.W.mg_none_of X G z_len, PySem.W.mg_none_of X G z_list, PySem.W.mg_none_of X G z_tuple, PySem.W.mg_none_of X G z_isinstance, PySem.W.mg_none_of X G z_str, PySem.W.mg_none_of X G z_dict, PySem.W.mg_none_of X G z_bool, PySem.W.mg_none_of X G z_int, PySem.W.mg_none_of X G z_max, PySem.W.mg_none_of X G z_all, PySem.W.mg_none_of X G z_set, PySem.W.mg_none_of X G z_range, PySem.W.mg_none_of X G z_enumerate, PySem.W.mg_none_of X G z_min,
    ⟨_, PySem.W.mg_of X G g_LETTERS⟩, ⟨_, PySem.W.mg_of X G g_LONGEST_NAME⟩, ⟨_, PySem.W.mg_of X G g_MOST_TABLES⟩, ⟨_, PySem.W.mg_of X G g_MOST_FIELDS⟩, ⟨_, PySem.W.mg_of X G g_LARGEST_VALUE⟩, ⟨_, PySem.W.mg_of X G g_MOST_BLOCKS⟩, ⟨_, PySem.W.mg_of X G g_MOST_KEYS⟩, ⟨_, PySem.W.mg_of X G g_MOST_SUMS⟩, ⟨_, PySem.W.mg_of X G g_MOST_FACTORS⟩, ⟨_, PySem.W.mg_of X G g_MOST_PRODUCTS⟩, ⟨_, PySem.W.mg_of X G g_LARGEST_MULTIPLE⟩, ⟨_, PySem.W.mg_of X G g_MOST_TOP_STATEMENTS⟩, ⟨_, PySem.W.mg_of X G g_MOST_IN_A_BODY⟩, ⟨_, PySem.W.mg_of X G g_DEEPEST⟩, ⟨_, PySem.W.mg_of X G g_MOST_STATEMENTS⟩,
    PySem.W.mg_none_of X G z_any, PySem.W.mg_of X G aC_Shape, ⟨pg_Shape, hd_Shape, po_Shape, sa_Shape⟩, n_Shape_tables, ccls, cget, ctak, cmro, cne,
    fun n hn => by
      simp only [List.mem_cons, List.mem_nil_iff, or_false] at hn
      rcases hn with rfl | rfl | rfl | rfl | rfl | rfl | rfl
      · exact ki_NoneType
      · exact ki_bool
      · exact ki_int
      · exact ki_str
      · exact ki_list
      · exact ki_tuple
      · exact ki_dict
    , fun n hn => by
      simp only [List.mem_cons, List.mem_nil_iff, or_false] at hn
      rcases hn with rfl | rfl | rfl | rfl | rfl | rfl | rfl
      · exact nf_NoneType
      · exact nf_bool
      · exact nf_int
      · exact nf_str
      · exact nf_list
      · exact nf_tuple
      · exact nf_dict
    ⟩
  have G0 : TxG K w mg CG CRd PD := ⟨PySem.W.mg_of X G aC_Program, PySem.W.mg_of X G gP, He.dicW_ok dW, parts_none dW, (fun z k hz => by
      unfold partsN at hz
      by_cases e1 : z = "scan"
      · subst e1; cases hz; exact ⟨_, p_scan⟩
      by_cases e2 : z = "run"
      · subst e2; cases hz; exact ⟨_, p_run⟩
      by_cases e3 : z = "seek"
      · subst e3; cases hz; exact ⟨_, p_seek⟩
      by_cases e4 : z = "each"
      · subst e4; cases hz; exact ⟨_, p_each⟩
      by_cases e5 : z = "rise"
      · subst e5; cases hz; exact ⟨_, p_rise⟩
      by_cases e6 : z = "look"
      · subst e6; cases hz; exact ⟨_, p_look⟩
      by_cases e7 : z = "same"
      · subst e7; cases hz; exact ⟨_, p_same⟩
      by_cases e8 : z = "put"
      · subst e8; cases hz; exact ⟨_, p_put⟩
      rw [if_neg e1, if_neg e2, if_neg e3, if_neg e4, if_neg e5, if_neg e6, if_neg e7, if_neg e8] at hz
      cases hz),
    ⟨pg_Program, hd_Program, po_Program, sa_Program⟩, ⟨pg_Reader, hd_Reader, po_Reader, sa_Reader⟩, n_Reader_shape, n_Reader_blocks, n_Reader_many, n_Reader_tops, n_Reader_asked, n_Program_shape, n_Program_blocks, n_Program_body⟩
  have R : Er K CBS CBB CBP := ⟨PySem.W.exm_ref E_BadStore.sb E_BadStore.hd E_BadStore.ty (errs_s errs 2 2 (by show 2 < 5; decide) (by show 2 < 5; decide)), PySem.W.exm_ref E_BadStore.sb E_BadStore.hd E_BadStore.ty (errs_s errs 3 2 (by show 3 < 5; decide) (by show 2 < 5; decide)), PySem.W.exm_ref E_BadBlock.sb E_BadBlock.hd E_BadBlock.ty (errs_s errs 3 3 (by show 3 < 5; decide) (by show 3 < 5; decide)), PySem.W.exm_ref E_BadStore.sb E_BadStore.hd E_BadStore.ty (errs_s errs 4 2 (by show 4 < 5; decide) (by show 2 < 5; decide)), PySem.W.exm_ref E_BadBlock.sb E_BadBlock.hd E_BadBlock.ty (errs_s errs 4 3 (by show 4 < 5; decide) (by show 3 < 5; decide)), PySem.W.exm_ref E_BadProgram.sb E_BadProgram.hd E_BadProgram.ty (errs_s errs 4 4 (by show 4 < 5; decide) (by show 4 < 5; decide)), ⟨E_BadStore.ga, E_BadStore.gg, E_BadStore.sb, E_BadStore.hd⟩, nf_BadStore, ⟨E_BadBlock.ga, E_BadBlock.gg, E_BadBlock.sb, E_BadBlock.hd⟩, nf_BadBlock, ⟨E_BadProgram.ga, E_BadProgram.gg, E_BadProgram.sb, E_BadProgram.hd⟩, nf_BadProgram⟩
  have U1 : Df l.prog w K mg base "_law_bag" 1 ps_l_bag (spBag K) := ⟨f9, _, ok_l_bag F9 T, PySem.W.mg_of X G a9, k9, b9⟩
  have U2 : Df l.prog w K mg base "_law_pick" 1 ps_l_pick spPick := ⟨f0, _, ok_l_pick F0 T, PySem.W.mg_of X G a0, k0, b0⟩
  have U3 : Df l.prog w K mg base "_law_name" 2 ps_l_name spName := ⟨f10, _, ok_l_name F10 T U2, PySem.W.mg_of X G a10, k10, b10⟩
  have U4 : Df l.prog w K mg base "_law_tables" 3 ps_l_tables spTables := ⟨f11, _, ok_l_tables F11 T U2 U3, PySem.W.mg_of X G a11, k11, b11⟩
  have U5 : Df l.prog w K mg base "_law_blocks" 3 ps_l_blocks spBlocks := ⟨f73, _, ok_l_blocks F73 T U2 U3, PySem.W.mg_of X G a73, k73, b73⟩
  have U6 : Df l.prog w K mg base "_law_plain_body" 2 ps_l_plain_body spBody := ⟨f75, _, ok_l_plain_body F75 T U2, PySem.W.mg_of X G a75, k75, b75⟩
  have U7 : Df l.prog w K mg base "is_row" 1 ps_is_row (spIsRow K) := ⟨f2, _, ok_is_row F2 T, PySem.W.mg_of X G a2, k2, b2⟩
  have U8 : Df l.prog w K mg base "is_tuple" 1 ps_is_tuple (spIsTuple K) := ⟨f3, _, ok_is_tuple F3 T, PySem.W.mg_of X G a3, k3, b3⟩
  have U9 : Df l.prog w K mg base "is_name" 1 ps_is_name (spIsName K) := ⟨f1, _, ok_is_name F1 T, PySem.W.mg_of X G a1, k1, b1⟩
  have U10 : Df l.prog w K mg base "are_names" 2 ps_are_names (spAreNames K) := ⟨f4, _, ok_are_names F4 T U7 U9, PySem.W.mg_of X G a4, k4, b4⟩
  have U11 : Df l.prog w K mg base "is_table" 3 ps_is_table spIsTable := ⟨f6, _, ok_is_table F6 T U8 U9 U10, PySem.W.mg_of X G a6, k6, b6⟩
  have U12 : DfX l.prog w K mg base "check_tables" 4 ps_check_tables (spCheck CB) := ⟨f7, _, ok_check_tables F7 T X_BadShape U7 U11, PySem.W.mg_of X G a7, k7, b7⟩
  have U13 : Df l.prog w K mg base "as_tuples" 40 ps_as_tuples (spTup 40) := ⟨f5, _, ok_as_tuples F5 T (PySem.W.mg_of X G a5) b5 40, PySem.W.mg_of X G a5, k5, b5⟩
  have U14 : DcX l.prog w K mg base "Shape" CS 41 ps_Shape_init (spShInit CS CB) := ⟨f8, _, ok_Shape_init F8 T U12 U13, PySem.W.mg_of X G aC_Shape, ⟨mk_Shape, a8, i8, kc_Shape⟩, b8⟩
  have U15 : Df l.prog w K mg base "_law_all_names" 40 ps_l_all_names (spAllN 40) := ⟨f74, _, ok_l_all_names F74 T (PySem.W.mg_of X G a74) b74 40, PySem.W.mg_of X G a74, k74, b74⟩
  have U16 : Df l.prog w K mg base "_law_copied" 40 ps_l_copied (spCopied 40) := ⟨f12, _, ok_l_copied F12 T (PySem.W.mg_of X G a12) b12 40, PySem.W.mg_of X G a12, k12, b12⟩
  have U17 : Df l.prog w K mg base "_law_alike" 40 ps_l_alike (spAlike 40) := ⟨f13, _, ok_l_alike F13 T (PySem.W.mg_of X G a13) b13 40, PySem.W.mg_of X G a13, k13, b13⟩
  have U18 : Df l.prog w K mg base "_law_row" 1 ps_l_row spRowL := ⟨f24, _, ok_l_row F24 T, PySem.W.mg_of X G a24, k24, b24⟩
  have U19 : Df l.prog w K mg base "_law_word" 1 ps_l_word spWord := ⟨f25, _, ok_l_word F25 T, PySem.W.mg_of X G a25, k25, b25⟩
  have U20 : Df l.prog w K mg base "_law_words" 2 ps_l_words spWords := ⟨f26, _, ok_l_words F26 T U18 U19, PySem.W.mg_of X G a26, k26, b26⟩
  have U21 : Df l.prog w K mg base "_law_blocks_due" 3 ps_l_blocks_due spBDue := ⟨f53, _, ok_l_blocks_due F53 T U18 U19 U20, PySem.W.mg_of X G a53, k53, b53⟩
  have U22 : Df l.prog w K mg base "_law_form" 2 ps_l_form spForm := ⟨f54, _, ok_l_form F54 T U18, PySem.W.mg_of X G a54, k54, b54⟩
  have U23 : Df l.prog w K mg base "_law_flat" 12 ps_l_flat (spFlat 9) := ⟨f61, _, ok_l_flat F61 T (PySem.W.mg_of X G a61) b61 U22 9, PySem.W.mg_of X G a61, k61, b61⟩
  have U24 : Df l.prog w K mg base "_law_integer" 1 ps_l_integer spInteger := ⟨f22, _, ok_l_integer F22 T, PySem.W.mg_of X G a22, k22, b22⟩
  have U25 : Df l.prog w K mg base "_law_within" 2 ps_l_within spWithinL := ⟨f52, _, ok_l_within F52 T U24, PySem.W.mg_of X G a52, k52, b52⟩
  have U26 : Df l.prog w K mg base "_law_named_row" 1 ps_l_named_row spNamedRow := ⟨f55, _, ok_l_named_row F55 T, PySem.W.mg_of X G a55, k55, b55⟩
  have U27 : Df l.prog w K mg base "_law_names_there" 2 ps_l_names_there spThere := ⟨f56, _, ok_l_names_there F56 T U26, PySem.W.mg_of X G a56, k56, b56⟩
  have U28 : Df l.prog w K mg base "_law_reads" 3 ps_l_reads spReadsL := ⟨f57, _, ok_l_reads F57 T U27, PySem.W.mg_of X G a57, k57, b57⟩
  have U29 : Df l.prog w K mg base "_law_right_term" 4 ps_l_right_term spTermL := ⟨f58, _, ok_l_right_term F58 T U25 U28, PySem.W.mg_of X G a58, k58, b58⟩
  have U30 : Df l.prog w K mg base "_law_right_terms" 5 ps_l_right_terms spTermsL := ⟨f59, _, ok_l_right_terms F59 T U18 U29, PySem.W.mg_of X G a59, k59, b59⟩
  have U31 : Df l.prog w K mg base "_law_tops_ahead" 1 ps_l_tops_ahead spTops := ⟨f62, _, ok_l_tops_ahead F62 T, PySem.W.mg_of X G a62, k62, b62⟩
  have U32 : Df l.prog w K mg base "_law_right_product" 4 ps_l_right_product spProdL := ⟨f60, _, ok_l_right_product F60 T U18 U25 U28 U27, PySem.W.mg_of X G a60, k60, b60⟩
  have U33 : Df l.prog w K mg base "_law_right_put" 6 ps_l_right_put spPutL := ⟨f64, _, ok_l_right_put F64 T U18 U26 U30 U31 U32, PySem.W.mg_of X G a64, k64, b64⟩
  have U34 : Df l.prog w K mg base "_law_right_loop" 6 ps_l_right_loop spLoop := ⟨f63, _, ok_l_right_loop F63 T U19 U26 U29 U30 U31, PySem.W.mg_of X G a63, k63, b63⟩
  have U35 : Df l.prog w K mg base "_law_right_statement" 7 ps_l_right_statement spStmtL := ⟨f65, _, ok_l_right_statement F65 T U22 U30 U33 U34, PySem.W.mg_of X G a65, k65, b65⟩
  have U36 : Df l.prog w K mg base "_law_wrong_path" 13 ps_l_wrong_path spWrongP := ⟨f66, _, ok_l_wrong_path F66 T U18 U23 U35, PySem.W.mg_of X G a66, k66, b66⟩
  have U37 : Df l.prog w K mg base "_law_program_due" 14 ps_l_program_due spPDue := ⟨f70, _, ok_l_program_due F70 U21 U36, PySem.W.mg_of X G a70, k70, b70⟩
  have U38 : Df l.prog w K mg base "is_block" 3 ps_is_block spIsBlk := ⟨f48, _, ok_is_block F48 T U8 U9 U10, PySem.W.mg_of X G a48, k48, b48⟩
  have U39 : DfX l.prog w K mg base "check_blocks" 4 ps_check_blocks (spChkB CS CBB) := ⟨f49, _, ok_check_blocks F49 T X_BadBlock U7 U38, PySem.W.mg_of X G a49, k49, b49⟩
  have U40 : Dc l.prog w K mg base "Reader" CRd 1 ps_Reader_init (spRdInit CS CRd) := ⟨f50, _, ok_Reader_init F50 T G0, PySem.W.mg_of X G aC_Reader, ⟨mk_Reader, a50, i50, kc_Reader⟩, b50⟩
  have U41 : Df l.prog w K mg base "has_parts" 1 ps_has_parts spHasP := ⟨f30, _, ok_has_parts F30 T G0, PySem.W.mg_of X G a30, k30, b30⟩
  have U42 : Dm l.prog w K mg base CRd "has_block" 2 ps_Reader_has_block (spHasB CS CRd) := ⟨f39, _, ok_Reader_has_block F39 T G0 U9, ⟨a39, i39, k39⟩, b39⟩
  have U43 : Df l.prog w K mg base "is_place" 2 ps_is_place spPlace := ⟨f33, _, ok_is_place F33 T U8 U9, PySem.W.mg_of X G a33, k33, b33⟩
  have U44 : Df l.prog w K mg base "is_integer" 1 ps_is_integer spIsInt := ⟨f27, _, ok_is_integer F27 T, PySem.W.mg_of X G a27, k27, b27⟩
  have U45 : Df l.prog w K mg base "is_value" 2 ps_is_value spIsVal := ⟨f28, _, ok_is_value F28 T U44, PySem.W.mg_of X G a28, k28, b28⟩
  have U46 : Df l.prog w K mg base "is_term" 3 ps_is_term spTerm := ⟨f34, _, ok_is_term F34 T U43 U45, PySem.W.mg_of X G a34, k34, b34⟩
  have U47 : Df l.prog w K mg base "are_terms" 4 ps_are_terms spTerms := ⟨f35, _, ok_are_terms F35 T U7 U46, PySem.W.mg_of X G a35, k35, b35⟩
  have U48 : Df l.prog w K mg base "is_multiple" 2 ps_is_multiple spMult := ⟨f29, _, ok_is_multiple F29 T U44, PySem.W.mg_of X G a29, k29, b29⟩
  have U49 : Df l.prog w K mg base "has_sum_of" 1 ps_has_sum_of spSumOf := ⟨f36, _, ok_has_sum_of F36 T, PySem.W.mg_of X G a36, k36, b36⟩
  have U50 : Df l.prog w K mg base "is_product" 3 ps_is_product spProd := ⟨f37, _, ok_is_product F37 T U8 U48 U7 U43 U49, PySem.W.mg_of X G a37, k37, b37⟩
  have U51 : Df l.prog w K mg base "are_products" 4 ps_are_products spProds := ⟨f38, _, ok_are_products F38 T U7 U50, PySem.W.mg_of X G a38, k38, b38⟩
  have U52 : Dm l.prog w K mg base CRd "put_fits" 5 ps_Reader_put_fits (spPutFit CS CRd) := ⟨f42, _, ok_Reader_put_fits F42 T G0 U42 U47 U7 U51, ⟨a42, i42, k42⟩, b42⟩
  have U53 : Df l.prog w K mg base "goes_over_entries" 1 ps_goes_over_entries spOver := ⟨f31, _, ok_goes_over_entries F31 T, PySem.W.mg_of X G a31, k31, b31⟩
  have U54 : Dm l.prog w K mg base CRd "entries_fit" 5 ps_Reader_entries_fit (spEntFit CS CRd) := ⟨f41, _, ok_Reader_entries_fit F41 T G0 U42 U47, ⟨a41, i41, k41⟩, b41⟩
  have U55 : Df l.prog w K mg base "fields_of_table" 1 ps_fields_of_table (spFoT CS) := ⟨f32, _, ok_fields_of_table F32 T, PySem.W.mg_of X G a32, k32, b32⟩
  have U56 : Dm l.prog w K mg base CRd "rows_fit" 4 ps_Reader_rows_fit (spRowsFit CS CRd) := ⟨f40, _, ok_Reader_rows_fit F40 T G0 U55 U46, ⟨a40, i40, k40⟩, b40⟩
  have U57 : Dm l.prog w K mg base CRd "fits" 6 ps_Reader_fits (spFits CS CRd) := ⟨f43, _, ok_Reader_fits F43 T G0 U41 U52 U7 U46 U9 U53 U54 U56, ⟨a43, i43, k43⟩, b43⟩
  have U58 : Dm l.prog w K mg base CRd "note" 2 ps_Reader_note (spNote CS CRd) := ⟨f44, _, ok_Reader_note F44 T G0 U53, ⟨a44, i44, k44⟩, b44⟩
  have U59 : DmX l.prog w K mg base CS "fields_of" 3 ps_Shape_fields_of (spFieldsE CS CN) := ⟨f45, _, ok_Shape_fields_of F45 T X_BadName, ⟨a45, i45, k45⟩, b45⟩
  have U60 : Dm l.prog w K mg base CRd "within" 4 ps_Reader_within (spWithin CS CRd) := ⟨f46, _, ok_Reader_within F46 T G0 U53 U59, ⟨a46, i46, k46⟩, b46⟩
  have U61 : DmX l.prog w K mg base CRd "read_body" 25 ps_Reader_read_body (spReadB CS CRd CBP 8) := ⟨f47, _, ok_Reader_read_body F47 F81 T G0 ⟨a47, i47, k47⟩ b47 ⟨a81, i81, k81⟩ b81 X_BadProgram U57 U58 U60, ⟨a47, i47, k47⟩, b47⟩
  have U62 : DcX l.prog w K mg base "Program" CG 42 ps_Program_init (spPgInit CS CG CBS CBB CBP) := ⟨f51, _, ok_Program_init F51 T G0 X_BadStore X_BadProgram U7 U39 U13 U40 U61, PySem.W.mg_of X G aC_Program, ⟨mk_Program, a51, i51, kc_Program⟩, b51⟩
  have U63 : Df l.prog w K mg base "_law_made" 44 ps_l_made (spMadeP CS CG) := ⟨f68, _, ok_l_made F68 R U62 X_BadStore X_BadBlock X_BadProgram, PySem.W.mg_of X G a68, k68, b68⟩
  have U64 : Deq l.prog w K mg base CS 1 ps_Shape_eq (spShSame CS) := ⟨f69, _, ok_Shape_eq F69 T, a69, i69, b69⟩
  have U65 : Df l.prog w K mg base "_law_tupled" 40 ps_l_tupled (spTupL 40) := ⟨f67, _, ok_l_tupled F67 T (PySem.W.mg_of X G a67) b67 40, PySem.W.mg_of X G a67, k67, b67⟩
  have U66 : Df l.prog w K mg base "_law_tells_program" 41 ps_l_tells_program (spTellsP CS CG) := ⟨f71, _, ok_l_tells_program F71 T G0 U64 U65 U17, PySem.W.mg_of X G a71, k71, b71⟩
  have U67 : Df l.prog w K mg base "_law_judged" 45 ps_l_judged (spJudged CS) := ⟨f72, _, ok_l_judged F72 U16 U17 U37 U63 U66, PySem.W.mg_of X G a72, k72, b72⟩
  have U68 : Df l.prog w K mg base "_law_places" 40 ps_l_places (spPlaces 40) := ⟨f14, _, ok_l_places F14 T (PySem.W.mg_of X G a14) b14 40, PySem.W.mg_of X G a14, k14, b14⟩
  have U69 : Df l.prog w K mg base "_law_at" 1 ps_l_at spAt := ⟨f15, _, ok_l_at F15 , PySem.W.mg_of X G a15, k15, b15⟩
  have U70 : Df l.prog w K mg base "_law_odd" 2 ps_l_odd spOdd := ⟨f18, _, ok_l_odd F18 T U2, PySem.W.mg_of X G a18, k18, b18⟩
  have U71 : Df l.prog w K mg base "_law_deep" 40 ps_l_deep (spDeep 40) := ⟨f17, _, ok_l_deep F17 T (PySem.W.mg_of X G a17) b17 40, PySem.W.mg_of X G a17, k17, b17⟩
  have U72 : Df l.prog w K mg base "_law_other_row" 2 ps_l_other_row spRow2 := ⟨f21, _, ok_l_other_row F21 T U2, PySem.W.mg_of X G a21, k21, b21⟩
  have U73 : Df l.prog w K mg base "_law_other_string" 2 ps_l_other_string spString := ⟨f20, _, ok_l_other_string F20 T U2, PySem.W.mg_of X G a20, k20, b20⟩
  have U74 : Df l.prog w K mg base "_law_other_number" 2 ps_l_other_number spNumber := ⟨f19, _, ok_l_other_number F19 T U2, PySem.W.mg_of X G a19, k19, b19⟩
  have U75 : Df l.prog w K mg base "_law_with" 40 ps_l_with (spWith 40) := ⟨f16, _, ok_l_with F16 T (PySem.W.mg_of X G a16) b16 40, PySem.W.mg_of X G a16, k16, b16⟩
  have U76 : Df l.prog w K mg base "_law_spoiled" 41 ps_l_spoiled spSpoiled := ⟨f23, _, ok_l_spoiled F23 T U2 U68 U69 U70 U71 U72 U73 U24 U74 U75, PySem.W.mg_of X G a23, k23, b23⟩
  exact ok_law F82 T U1 U2 U4 U5 U6 U14 U15 U67 U76 U21 U70 U63 U17
theorem walk {l : PySem.W.OpenLaw} {q : Program} {loose : List Str} {XP : (Str → Option Value) → Heap → Prop} {YP : World → Heap → Prop} {d : DefRec} {K : Params → PySem.W.Frag} (hn : l.most = some 63) (hdf : d.params.defaults = [])
    (hY : ∀ (w : World) (h : Heap), YP w h → (K w.params).In h)
    (F : ∀ (w : World) (mg : Str → Option Value) (fa : Addr) (h : Heap), (K w.params).In h → h.Ns mainGlobals mg → mg d.name = some (.ref fa) →
      ∃ fd : FuncData, (∀ (s : Shared) (u : Value), BindsTo s fd ⟨[u], []⟩ [("_law_script", u)]) ∧ ∀ base : Heap, (K w.params).In base → base.Ns mainGlobals mg → FnOk l.prog w (K w.params) mg base CX0 46 fa fd ["_law_script"] (spLaw (K w.params))) :
    PySem.W.WalkO q loose XP YP l.row.toRowW d [] (fun f vs => PySem.call f vs) :=
  L2.walk_of (n := 63) (k := 46) (x := "_law_script") (CX := fun _ => CX0) (sp := fun w => spLaw (K w.params)) hn (by decide) hdf ⟨rfl, by decide, by decide⟩ hY F (fun _ _ a ns hl _ hS => ⟨a, ns, rfl, hS, hl, fun _ => rfl⟩) fun _ _ _ _ _ z => z
end Fm

/-! ## K08N -/
set_option Elab.async false
set_option maxRecDepth 100000
open PySem PySem.W PyProof.Rows in
set_option maxRecDepth 100000 in
set_option maxHeartbeats 0 in
theorem PySem.Challenge.cw_firstmet_k08_blocks_holds : PySem.Challenge.rw_firstmet_k08_blocks.Holds := by
  w_on; o_law; k_head; (case hw => w_witness2)
  k_fill
  refine Fm.walk (l := PySem.Challenge.rw_firstmet_k08_blocks) rfl rfl (fun w h Y => PySem.W.kIn_of Y) ?F
  case F =>
    intro w mg fa h KX G hmg
    refine' Fm.all_mk KX G hmg ?aC_Shape ?aC_Program ?aC_Reader ?aC_BadShape ?aC_BadName ?aC_BadStore ?aC_BadBlock ?aC_BadProgram ?xL0 ?xL1 ?xL2 ?xL3 ?xL4 ?a0 ?l0 ?c0 ?k0 ?a1 ?l1 ?c1 ?k1 ?a2 ?l2 ?c2 ?k2 ?a3 ?l3 ?c3 ?k3 ?a4 ?l4 ?c4 ?k4 ?a5 ?l5 ?c5 ?k5 ?a6 ?l6 ?c6 ?k6 ?a7 ?l7 ?c7 ?k7 ?a8 ?i8 ?l8 ?c8 ?k8 ?a9 ?l9 ?c9 ?k9 ?a10 ?l10 ?c10 ?k10 ?a11 ?l11 ?c11 ?k11 ?a12 ?l12 ?c12 ?k12 ?a13 ?l13 ?c13 ?k13 ?a14 ?l14 ?c14 ?k14 ?a15 ?l15 ?c15 ?k15 ?a16 ?l16 ?c16 ?k16 ?a17 ?l17 ?c17 ?k17 ?a18 ?l18 ?c18 ?k18 ?a19 ?l19 ?c19 ?k19 ?a20 ?l20 ?c20 ?k20 ?a21 ?l21 ?c21 ?k21 ?a22 ?l22 ?c22 ?k22 ?a23 ?l23 ?c23 ?k23 ?a24 ?l24 ?c24 ?k24 ?a25 ?l25 ?c25 ?k25 ?a26 ?l26 ?c26 ?k26 ?a27 ?l27 ?c27 ?k27 ?a28 ?l28 ?c28 ?k28 ?a29 ?l29 ?c29 ?k29 ?a30 ?l30 ?c30 ?k30 ?a31 ?l31 ?c31 ?k31 ?a32 ?l32 ?c32 ?k32 ?a33 ?l33 ?c33 ?k33 ?a34 ?l34 ?c34 ?k34 ?a35 ?l35 ?c35 ?k35 ?a36 ?l36 ?c36 ?k36 ?a37 ?l37 ?c37 ?k37 ?a38 ?l38 ?c38 ?k38 ?a39 ?i39 ?l39 ?c39 ?k39 ?a40 ?i40 ?l40 ?c40 ?k40 ?a41 ?i41 ?l41 ?c41 ?k41 ?a42 ?i42 ?l42 ?c42 ?k42 ?a43 ?i43 ?l43 ?c43 ?k43 ?a44 ?i44 ?l44 ?c44 ?k44 ?a45 ?i45 ?l45 ?c45 ?k45 ?a46 ?i46 ?l46 ?c46 ?k46 ?a47 ?i47 ?l47 ?c47 ?k47 ?a48 ?l48 ?c48 ?k48 ?a49 ?l49 ?c49 ?k49 ?a50 ?i50 ?l50 ?c50 ?k50 ?a51 ?i51 ?l51 ?c51 ?k51 ?a52 ?l52 ?c52 ?k52 ?a53 ?l53 ?c53 ?k53 ?a54 ?l54 ?c54 ?k54 ?a55 ?l55 ?c55 ?k55 ?a56 ?l56 ?c56 ?k56 ?a57 ?l57 ?c57 ?k57 ?a58 ?l58 ?c58 ?k58 ?a59 ?l59 ?c59 ?k59 ?a60 ?l60 ?c60 ?k60 ?a61 ?l61 ?c61 ?k61 ?a62 ?l62 ?c62 ?k62 ?a63 ?l63 ?c63 ?k63 ?a64 ?l64 ?c64 ?k64 ?a65 ?l65 ?c65 ?k65 ?a66 ?l66 ?c66 ?k66 ?a67 ?l67 ?c67 ?k67 ?a68 ?l68 ?c68 ?k68 ?a69 ?i69 ?l69 ?c69 ?k69 ?a70 ?l70 ?c70 ?k70 ?a71 ?l71 ?c71 ?k71 ?a72 ?l72 ?c72 ?k72 ?a73 ?l73 ?c73 ?k73 ?a74 ?l74 ?c74 ?k74 ?a75 ?l75 ?c75 ?k75 ?a76 ?t76 ?l76 ?c76 ?k76 ?a77 ?t77 ?l77 ?c77 ?k77 ?a78 ?t78 ?l78 ?c78 ?k78 ?a79 ?t79 ?l79 ?c79 ?k79 ?a80 ?t80 ?l80 ?c80 ?k80 ?a81 ?i81 ?l81 ?c81 ?k81 ?a82 ?l82 ?c82 ?k82 ?pg_Shape ?hd_Shape ?po_Shape ?sa_Shape ?mk_Shape ?kc_Shape ?n_Shape_tables ?pg_Program ?hd_Program ?po_Program ?sa_Program ?mk_Program ?kc_Program ?n_Program_shape ?n_Program_blocks ?n_Program_body ?pg_Reader ?hd_Reader ?po_Reader ?sa_Reader ?mk_Reader ?kc_Reader ?n_Reader_shape ?n_Reader_blocks ?n_Reader_many ?n_Reader_tops ?n_Reader_asked ?z_len ?z_list ?z_tuple ?z_isinstance ?z_str ?z_dict ?z_bool ?z_int ?z_max ?z_all ?z_set ?z_range ?z_enumerate ?z_min ?z_any ?g_LETTERS ?g_LONGEST_NAME ?g_MOST_TABLES ?g_MOST_FIELDS ?g_LARGEST_VALUE ?g_MOST_BLOCKS ?g_MOST_KEYS ?g_MOST_SUMS ?g_MOST_FACTORS ?g_MOST_PRODUCTS ?g_LARGEST_MULTIPLE ?g_MOST_TOP_STATEMENTS ?g_MOST_IN_A_BODY ?g_DEEPEST ?g_MOST_STATEMENTS ?ccls ?cget ?ctak ?cmro ?cne ?ki_NoneType ?ki_bool ?ki_int ?ki_str ?ki_list ?ki_tuple ?ki_dict ?nf_NoneType ?nf_bool ?nf_int ?nf_str ?nf_list ?nf_tuple ?nf_dict ?gP ?dW ?p_scan ?p_run ?p_seek ?p_each ?p_rise ?p_look ?p_same ?p_put ?errs
    (case aC_Shape => k_is)
    (case aC_Program => k_is)
    (case aC_Reader => k_is)
    (case aC_BadShape => k_is)
    (case aC_BadName => k_is)
    (case aC_BadStore => k_is)
    (case aC_BadBlock => k_is)
    (case aC_BadProgram => k_is)
    (case xL0 => k_is)
    (case xL1 => k_is)
    (case xL2 => k_is)
    (case xL3 => k_is)
    (case xL4 => k_is)
    (case a0 => k_is)
    (case l0 => k_is)
    (case c0 => k_is)
    (case k0 => k_is)
    (case a1 => k_is)
    (case l1 => k_is)
    (case c1 => k_is)
    (case k1 => k_is)
    (case a2 => k_is)
    (case l2 => k_is)
    (case c2 => k_is)
    (case k2 => k_is)
    (case a3 => k_is)
    (case l3 => k_is)
    (case c3 => k_is)
    (case k3 => k_is)
    (case a4 => k_is)
    (case l4 => k_is)
    (case c4 => k_is)
    (case k4 => k_is)
    (case a5 => k_is)
    (case l5 => k_is)
    (case c5 => k_is)
    (case k5 => k_is)
    (case a6 => k_is)
    (case l6 => k_is)
    (case c6 => k_is)
    (case k6 => k_is)
    (case a7 => k_is)
    (case l7 => k_is)
    (case c7 => k_is)
    (case k7 => k_is)
    (case a8 => k_is)
    (case i8 => k_is)
    (case l8 => k_is)
    (case c8 => k_is)
    (case k8 => k_is)
    (case a9 => k_is)
    (case l9 => k_is)
    (case c9 => k_is)
    (case k9 => k_is)
    (case a10 => k_is)
    (case l10 => k_is)
    (case c10 => k_is)
    (case k10 => k_is)
    (case a11 => k_is)
    (case l11 => k_is)
    (case c11 => k_is)
    (case k11 => k_is)
    (case a12 => k_is)
    (case l12 => k_is)
    (case c12 => k_is)
    (case k12 => k_is)
    (case a13 => k_is)
    (case l13 => k_is)
    (case c13 => k_is)
    (case k13 => k_is)
    (case a14 => k_is)
    (case l14 => k_is)
    (case c14 => k_is)
    (case k14 => k_is)
    (case a15 => k_is)
    (case l15 => k_is)
    (case c15 => k_is)
    (case k15 => k_is)
    (case a16 => k_is)
    (case l16 => k_is)
    (case c16 => k_is)
    (case k16 => k_is)
    (case a17 => k_is)
    (case l17 => k_is)
    (case c17 => k_is)
    (case k17 => k_is)
    (case a18 => k_is)
    (case l18 => k_is)
    (case c18 => k_is)
    (case k18 => k_is)
    (case a19 => k_is)
    (case l19 => k_is)
    (case c19 => k_is)
    (case k19 => k_is)
    (case a20 => k_is)
    (case l20 => k_is)
    (case c20 => k_is)
    (case k20 => k_is)
    (case a21 => k_is)
    (case l21 => k_is)
    (case c21 => k_is)
    (case k21 => k_is)
    (case a22 => k_is)
    (case l22 => k_is)
    (case c22 => k_is)
    (case k22 => k_is)
    (case a23 => k_is)
    (case l23 => k_is)
    (case c23 => k_is)
    (case k23 => k_is)
    (case a24 => k_is)
    (case l24 => k_is)
    (case c24 => k_is)
    (case k24 => k_is)
    (case a25 => k_is)
    (case l25 => k_is)
    (case c25 => k_is)
    (case k25 => k_is)
    (case a26 => k_is)
    (case l26 => k_is)
    (case c26 => k_is)
    (case k26 => k_is)
    (case a27 => k_is)
    (case l27 => k_is)
    (case c27 => k_is)
    (case k27 => k_is)
    (case a28 => k_is)
    (case l28 => k_is)
    (case c28 => k_is)
    (case k28 => k_is)
    (case a29 => k_is)
    (case l29 => k_is)
    (case c29 => k_is)
    (case k29 => k_is)
    (case a30 => k_is)
    (case l30 => k_is)
    (case c30 => k_is)
    (case k30 => k_is)
    (case a31 => k_is)
    (case l31 => k_is)
    (case c31 => k_is)
    (case k31 => k_is)
    (case a32 => k_is)
    (case l32 => k_is)
    (case c32 => k_is)
    (case k32 => k_is)
    (case a33 => k_is)
    (case l33 => k_is)
    (case c33 => k_is)
    (case k33 => k_is)
    (case a34 => k_is)
    (case l34 => k_is)
    (case c34 => k_is)
    (case k34 => k_is)
    (case a35 => k_is)
    (case l35 => k_is)
    (case c35 => k_is)
    (case k35 => k_is)
    (case a36 => k_is)
    (case l36 => k_is)
    (case c36 => k_is)
    (case k36 => k_is)
    (case a37 => k_is)
    (case l37 => k_is)
    (case c37 => k_is)
    (case k37 => k_is)
    (case a38 => k_is)
    (case l38 => k_is)
    (case c38 => k_is)
    (case k38 => k_is)
    (case a39 => k_is)
    (case i39 => k_is)
    (case l39 => k_is)
    (case c39 => k_is)
    (case k39 => k_is)
    (case a40 => k_is)
    (case i40 => k_is)
    (case l40 => k_is)
    (case c40 => k_is)
    (case k40 => k_is)
    (case a41 => k_is)
    (case i41 => k_is)
    (case l41 => k_is)
    (case c41 => k_is)
    (case k41 => k_is)
    (case a42 => k_is)
    (case i42 => k_is)
    (case l42 => k_is)
    (case c42 => k_is)
    (case k42 => k_is)
    (case a43 => k_is)
    (case i43 => k_is)
    (case l43 => k_is)
    (case c43 => k_is)
    (case k43 => k_is)
    (case a44 => k_is)
    (case i44 => k_is)
    (case l44 => k_is)
    (case c44 => k_is)
    (case k44 => k_is)
    (case a45 => k_is)
    (case i45 => k_is)
    (case l45 => k_is)
    (case c45 => k_is)
    (case k45 => k_is)
    (case a46 => k_is)
    (case i46 => k_is)
    (case l46 => k_is)
    (case c46 => k_is)
    (case k46 => k_is)
    (case a47 => k_is)
    (case i47 => k_is)
    (case l47 => k_is)
    (case c47 => k_is)
    (case k47 => k_is)
    (case a48 => k_is)
    (case l48 => k_is)
    (case c48 => k_is)
    (case k48 => k_is)
    (case a49 => k_is)
    (case l49 => k_is)
    (case c49 => k_is)
    (case k49 => k_is)
    (case a50 => k_is)
    (case i50 => k_is)
    (case l50 => k_is)
    (case c50 => k_is)
    (case k50 => k_is)
    (case a51 => k_is)
    (case i51 => k_is)
    (case l51 => k_is)
    (case c51 => k_is)
    (case k51 => k_is)
    (case a52 => k_is)
    (case l52 => k_is)
    (case c52 => k_is)
    (case k52 => k_is)
    (case a53 => k_is)
    (case l53 => k_is)
    (case c53 => k_is)
    (case k53 => k_is)
    (case a54 => k_is)
    (case l54 => k_is)
    (case c54 => k_is)
    (case k54 => k_is)
    (case a55 => k_is)
    (case l55 => k_is)
    (case c55 => k_is)
    (case k55 => k_is)
    (case a56 => k_is)
    (case l56 => k_is)
    (case c56 => k_is)
    (case k56 => k_is)
    (case a57 => k_is)
    (case l57 => k_is)
    (case c57 => k_is)
    (case k57 => k_is)
    (case a58 => k_is)
    (case l58 => k_is)
    (case c58 => k_is)
    (case k58 => k_is)
    (case a59 => k_is)
    (case l59 => k_is)
    (case c59 => k_is)
    (case k59 => k_is)
    (case a60 => k_is)
    (case l60 => k_is)
    (case c60 => k_is)
    (case k60 => k_is)
    (case a61 => k_is)
    (case l61 => k_is)
    (case c61 => k_is)
    (case k61 => k_is)
    (case a62 => k_is)
    (case l62 => k_is)
    (case c62 => k_is)
    (case k62 => k_is)
    (case a63 => k_is)
    (case l63 => k_is)
    (case c63 => k_is)
    (case k63 => k_is)
    (case a64 => k_is)
    (case l64 => k_is)
    (case c64 => k_is)
    (case k64 => k_is)
    (case a65 => k_is)
    (case l65 => k_is)
    (case c65 => k_is)
    (case k65 => k_is)
    (case a66 => k_is)
    (case l66 => k_is)
    (case c66 => k_is)
    (case k66 => k_is)
    (case a67 => k_is)
    (case l67 => k_is)
    (case c67 => k_is)
    (case k67 => k_is)
    (case a68 => k_is)
    (case l68 => k_is)
    (case c68 => k_is)
    (case k68 => k_is)
    (case a69 => k_is)
    (case i69 => k_is)
    (case l69 => k_is)
    (case c69 => k_is)
    (case k69 => k_is)
    (case a70 => k_is)
    (case l70 => k_is)
    (case c70 => k_is)
    (case k70 => k_is)
    (case a71 => k_is)
    (case l71 => k_is)
    (case c71 => k_is)
    (case k71 => k_is)
    (case a72 => k_is)
    (case l72 => k_is)
    (case c72 => k_is)
    (case k72 => k_is)
    (case a73 => k_is)
    (case l73 => k_is)
    (case c73 => k_is)
    (case k73 => k_is)
    (case a74 => k_is)
    (case l74 => k_is)
    (case c74 => k_is)
    (case k74 => k_is)
    (case a75 => k_is)
    (case l75 => k_is)
    (case c75 => k_is)
    (case k75 => k_is)
    (case a76 => k_is)
    (case t76 => k_is)
    (case l76 => k_is)
    (case c76 => k_is)
    (case k76 => k_is)
    (case a77 => k_is)
    (case t77 => k_is)
    (case l77 => k_is)
    (case c77 => k_is)
    (case k77 => k_is)
    (case a78 => k_is)
    (case t78 => k_is)
    (case l78 => k_is)
    (case c78 => k_is)
    (case k78 => k_is)
    (case a79 => k_is)
    (case t79 => k_is)
    (case l79 => k_is)
    (case c79 => k_is)
    (case k79 => k_is)
    (case a80 => k_is)
    (case t80 => k_is)
    (case l80 => k_is)
    (case c80 => k_is)
    (case k80 => k_is)
    (case a81 => k_is)
    (case i81 => k_is)
    (case l81 => k_is)
    (case c81 => k_is)
    (case k81 => k_is)
    (case a82 => k_is)
    (case l82 => k_is)
    (case c82 => k_is)
    (case k82 => k_is)
    (case pg_Shape => k_is)
    (case hd_Shape => k_is)
    (case po_Shape => k_is)
    (case sa_Shape => k_is)
    (case mk_Shape => k_is)
    (case kc_Shape => k_is)
    (case n_Shape_tables => k_is)
    (case pg_Program => k_is)
    (case hd_Program => k_is)
    (case po_Program => k_is)
    (case sa_Program => k_is)
    (case mk_Program => k_is)
    (case kc_Program => k_is)
    (case n_Program_shape => k_is)
    (case n_Program_blocks => k_is)
    (case n_Program_body => k_is)
    (case pg_Reader => k_is)
    (case hd_Reader => k_is)
    (case po_Reader => k_is)
    (case sa_Reader => k_is)
    (case mk_Reader => k_is)
    (case kc_Reader => k_is)
    (case n_Reader_shape => k_is)
    (case n_Reader_blocks => k_is)
    (case n_Reader_many => k_is)
    (case n_Reader_tops => k_is)
    (case n_Reader_asked => k_is)
    (case z_len => k_is)
    (case z_list => k_is)
    (case z_tuple => k_is)
    (case z_isinstance => k_is)
    (case z_str => k_is)
    (case z_dict => k_is)
    (case z_bool => k_is)
    (case z_int => k_is)
    (case z_max => k_is)
    (case z_all => k_is)
    (case z_set => k_is)
    (case z_range => k_is)
    (case z_enumerate => k_is)
    (case z_min => k_is)
    (case z_any => k_is)
    (case g_LETTERS => k_is)
    (case g_LONGEST_NAME => k_is)
    (case g_MOST_TABLES => k_is)
    (case g_MOST_FIELDS => k_is)
    (case g_LARGEST_VALUE => k_is)
    (case g_MOST_BLOCKS => k_is)
    (case g_MOST_KEYS => k_is)
    (case g_MOST_SUMS => k_is)
    (case g_MOST_FACTORS => k_is)
    (case g_MOST_PRODUCTS => k_is)
    (case g_LARGEST_MULTIPLE => k_is)
    (case g_MOST_TOP_STATEMENTS => k_is)
    (case g_MOST_IN_A_BODY => k_is)
    (case g_DEEPEST => k_is)
    (case g_MOST_STATEMENTS => k_is)
    (case ccls => k_is)
    (case cget => k_is)
    (case ctak => k_is)
    (case cmro => k_is)
    (case cne => k_is)
    (case ki_NoneType => kit_is)
    (case ki_bool => kit_is)
    (case ki_int => kit_is)
    (case ki_str => kit_is)
    (case ki_list => kit_is)
    (case ki_tuple => kit_is)
    (case ki_dict => kit_is)
    (case nf_NoneType => k_is)
    (case nf_bool => k_is)
    (case nf_int => k_is)
    (case nf_str => k_is)
    (case nf_list => k_is)
    (case nf_tuple => k_is)
    (case nf_dict => k_is)
    (case gP => k_is)
    (case dW => kernel_rfl)
    (case p_scan => k_is)
    (case p_run => k_is)
    (case p_seek => k_is)
    (case p_each => k_is)
    (case p_rise => k_is)
    (case p_look => k_is)
    (case p_same => k_is)
    (case p_put => k_is)
    (case errs => kernel_rfl)
