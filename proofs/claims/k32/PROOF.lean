import PyProof.Rows.All
import Wide.All
import OpenK.AllK
import Wide.FinOn
import HandS.ForMost
import HandS.IsInst
import HandS.TupAny
import HandS.Strs
import HandS.OwnEq
import HandS.Flow
import HandS.Evl
import HandS.Zip0
import HandS.Walk
import PyProof.Draws
import PyProof.EnumMake
import PyProof.InstNe
import HandS.TupMul
import HandS.Exc
import HandS.ExcIs
import HandS.ExcField
import HandS.ExcInit
import HandS.Small
import HandS.Defaults
import HandS.MakeKwOnly
import HandS.ExcOwn
import HandS.WordsExc
import HandS.DictComp
import HandS.DictEq
import HandS.More
import HandS.Star
import KE.KEqDict
import HandS.SetKeys
import HandS.DictTup
import HandS.Comp
import KE.KDictDisplayH
import HandS.Sort
import KE.KSortTupG
import HandS.Zip
import HandS.TryMany
import HandS.TupLen
import PySem.Challenge.RW_firstmet_k32_group_map
/-! ## FmBase -/
set_option Elab.async false
set_option maxRecDepth 100000
/-! What all of our laws share: how a def of the text is called, heaps that grow, the bag of the drawn numbers. -/
namespace Fm
open PySem L2
/-! ### calls -/
/-- the module's name x is a def that keeps the promise sp -/
structure Df (P : Program) (w : World) (K : PySem.W.Frag) (mg : Str → Option Value) (base : Heap) (x : Str) (k : Nat) (ps : List Str) (sp : Sp) : Prop where
  ex : ∃ (f : Addr) (fd : FuncData), FnOk P w K mg base CX0 k f fd ps sp ∧ mg x = some (.ref f) ∧ PySem.W.keepIn K (.ref f) = true ∧ Binds K fd ps []
/-- the method m of the class at C -/
structure Dm (P : Program) (w : World) (K : PySem.W.Frag) (mg : Str → Option Value) (base : Heap) (C : Addr) (m : Str) (k : Nat) (ps : List Str) (sp : Sp) : Prop where
  ex : ∃ (f : Addr) (fd : FuncData), FnOk P w K mg base CX0 k f fd ps sp ∧ Meth K C m f ∧ Binds K fd ps []
/-- the class at C, by its __init__ -/
structure Dc (P : Program) (w : World) (K : PySem.W.Frag) (mg : Str → Option Value) (base : Heap) (x : Str) (C : Addr) (k : Nat) (ps : List Str) (sp : Sp) : Prop where
  ex : ∃ (f : Addr) (fd : FuncData), FnOk P w K mg base CX0 k f fd ps sp ∧ mg x = some (.ref C) ∧ Mk K C f ∧ Binds K fd ps []
section
variable {X : Cx} {k : Nat} {ps : List Str} {sp : Sp} {x m : Str} {e o : Expr} {es : List Expr} {t : TA} {to : TE} {C : Addr} {p apos pos : Pos}
theorem pe_d (D : Df X.prog X.w X.K X.mg X.base x k ps sp) (hr : Room k X.A) (ha : PA X (e :: es) t) (hg : Gl X x := by rfl) (hdb : (x == ("__debug__" : Str)) = false := by decide)
    (he : starEach (e :: es) X.env = (false, eval e X.env) :: starEach es X.env := by rfl) (hpl : (backTo pos (starEach es X.env)).any (·.1) = false := by rfl) : PE X (.Call (.Name x p) (e :: es) [] pos) (tCall sp [] E0 t) := by
  obtain ⟨f, fd, F, hm, hk, hb⟩ := D.ex
  exact pe_call F hr hg hm hk hb .nil pass0 ha hdb he hpl
theorem pe_dc (D : Dc X.prog X.w X.K X.mg X.base x C k ps sp) (hr : Room (k + 1) X.A) (ha : PA X (e :: es) t) (hg : Gl X x := by rfl) (hdb : (x == ("__debug__" : Str)) = false := by decide)
    (he : starEach (e :: es) X.env = (false, eval e X.env) :: starEach es X.env := by rfl) (hpl : (backTo pos (starEach es X.env)).any (·.1) = false := by rfl) : PE X (.Call (.Name x p) (e :: es) [] pos) (tMake C sp [] E0 t) := by
  obtain ⟨f, fd, F, hm, M, hb⟩ := D.ex
  exact pe_make M F hr hg hm hb .nil pass0 ha hdb he hpl
theorem pe_dm {pl : Sem Bool} (he : PE X o to) (c : Cls X.K C) (D : Dm X.prog X.w X.K X.mg X.base C m k ps sp) (hr : Room k X.A) (ha : PA X (e :: es) t)
    (hst : starEach (e :: es) X.env = (false, eval e X.env) :: starEach es X.env := by rfl) (hpl : (backTo pos (starEach es X.env)).any (·.1) = false := by rfl)
    (ht : eval (.Call (.Attribute o m apos) (e :: es) [] pos) X.env = (do
      let ov ← eval o X.env
      standAt apos.atName
      let (f, first) ← holding [ov] (getMethod ov m pl)
      callWith pos f first (backTo pos (starEach (e :: es) X.env)) (backToKw pos (keywordEach [] X.env))) := by rfl) : PE X (.Call (.Attribute o m apos) (e :: es) [] pos) (tMeth C m sp [] E0 to t) := by
  obtain ⟨f, fd, F, hm, hb⟩ := D.ex
  exact pe_meth he c hm F hr hb .nil pass0 ha hst hpl ht
end
section
variable {X : Cx} {x : Str} {pos : Pos}
theorem pe_gI {n : Int} (h : ∃ t, X.mg x = some (.int n t)) (hg : Gl X x := by rfl) (hd : (x == ("__debug__" : Str)) = false := by decide) : PE X (.Name x pos) (tC (.int n)) := by
  obtain ⟨t, e⟩ := h
  exact pe_glob hg e ⟨t, rfl⟩ hd
theorem pe_gS {z : Str} (h : ∃ t, X.mg x = some (.str z t)) (hg : Gl X x := by rfl) (hd : (x == ("__debug__" : Str)) = false := by decide) : PE X (.Name x pos) (tC (.str z)) := by
  obtain ⟨t, e⟩ := h
  exact pe_glob hg e ⟨t, rfl⟩ hd
end
/-! ### tests -/
theorem ifd {p A B : Prop} [Decidable p] (h1 : p → A) (h2 : ¬ p → B) : if decide p = true then A else B := by
  by_cases h : p
  · rw [if_pos (decide_eq_true h)]
    exact h1 h
  · rw [if_neg (by rw [decide_eq_false h]; exact Bool.false_ne_true)]
    exact h2 h
theorem ifn {p A B : Prop} [Decidable p] (h1 : ¬ p → A) (h2 : p → B) : if (!decide p) = true then A else B := by
  by_cases h : p
  · rw [if_neg (by rw [decide_eq_true h]; exact Bool.false_ne_true)]
    exact h2 h
  · rw [if_pos (by rw [decide_eq_false h]; rfl)]
    exact h1 h
theorem intV {i j : Int} (h : V.int i = V.int j) : i = j := V.int.inj h
/-! ### heaps that grow: F is the part that is spoken of, the rest of H stays -/
structure Grow (F H F' H' : Hp) : Prop where
  ff : Same F F'
  fh : Same F' H'
  hh : ∀ a o, F a = none → H a = some o → F' a = none ∧ H' a = some o
theorem Grow.refl {F H : Hp} (s : Same F H) : Grow F H F H := ⟨Same.refl _, s, fun _ _ a b => ⟨a, b⟩⟩
theorem Grow.same {F H F' H' : Hp} (s : Same F H) (g : Grow F H F' H') : Same H H' := fun a o e => by
  cases q : F a with
  | none => exact (g.hh a o q e).2
  | some u =>
    have z := s a u q
    rw [e] at z
    cases z
    exact g.fh _ _ (g.ff _ _ q)
theorem Grow.trans {F H F1 H1 F2 H2 : Hp} (a : Grow F H F1 H1) (b : Grow F1 H1 F2 H2) : Grow F H F2 H2 :=
  ⟨a.ff.trans b.ff, b.fh, fun c o h1 h2 => let ⟨z1, z2⟩ := a.hh c o h1 h2; b.hh c o z1 z2⟩
theorem same_upd {F H : Hp} (s : Same F H) (p : Addr) (o : HO) : Same (upd F p o) (upd H p o) := fun a u e => by
  by_cases h : a = p
  · subst h
    rw [upd_same] at e ⊢
    exact e
  · rw [upd_ne h] at e ⊢
    exact s a u e
theorem Grow.new {F H : Hp} (s : Same F H) {p : Addr} (o : HO) (hp : H p = none) : Grow F H (upd F p o) (upd H p o) :=
  ⟨fun a u e => by rw [upd_ne (ne_of_none e (s.free hp))]; exact e, same_upd s p o, fun a u e1 e2 => by
    have n := ne_of_none e2 hp
    rw [upd_ne n, upd_ne n]
    exact ⟨e1, e2⟩⟩
theorem same_upd1 {F H : Hp} (s : Same F H) {p : Addr} (o : HO) (hp : H p = none) : Same F (L2.upd H p o) := fun a u e => by
  rw [upd_ne (ne_of_none (s a u e) hp)]
  exact s a u e
theorem same_new {H : Hp} {p : Addr} (o : HO) (hp : H p = none) : Same H (upd H p o) := same_upd1 (Same.refl H) o hp
theorem same_put {H H' : Hp} (s : Same H H') {D : Addr} (o : HO) (hD : H D = none) : Same H (upd H' D o) := fun a u e => by
  have n : a ≠ D := ne_of_none e hD
  rw [upd_ne n]
  exact s a u e
theorem map_take {α β : Type} {xs : List α} {i : Nat} {c : α} (f : α → β) (h : xs[i]? = some c) : (xs.take (i + 1)).map f = (xs.take i).map f ++ [f c] := by
  rw [List.take_add_one, h, List.map_append]
  rfl
theorem take_lt {α β : Type} {xs : List α} {i : Nat} (f : α → β) (h : xs.length ≤ 100000) : ((xs.take i).map f).length < sizeLine := by
  rw [List.length_map, List.length_take]
  exact Nat.lt_of_le_of_lt (Nat.le_trans (Nat.min_le_right _ _) h) (by decide)
/-! ### the bag -/
structure Bag (F H : Hp) (b : Addr) : Prop where
  fh : Same F H
  fb : F b = none
  ex : ∃ (cl : Addr) (ns : List Int) (p g s c h : Int), F cl = none ∧ cl ≠ b ∧ H cl = some (.lst (ns.map V.int)) ∧ H b = some (.lst [.ref cl, .int p, .int g, .int s, .int c, .int h]) ∧ 0 ≤ p ∧ 0 ≤ g ∧ 0 ≤ s ∧ s < 2147483647
theorem Bag.grow {F H F' H' : Hp} {b : Addr} (B : Bag F H b) (g : Grow F H F' H') : Bag F' H' b := by
  obtain ⟨s, fb, cl, ns, p, gg, z, c, h, e1, e2, e3, e4, r⟩ := B
  obtain ⟨z1, z2⟩ := g.hh _ _ e1 e3
  obtain ⟨y1, y2⟩ := g.hh _ _ fb e4
  exact ⟨g.fh, y1, cl, ns, p, gg, z, c, h, z1, e2, z2, y2, r⟩
theorem Bag.new {F H : Hp} {b p : Addr} (B : Bag F H b) (o : HO) (hp : H p = none) : Bag (upd F p o) (upd H p o) b := B.grow (Grow.new B.fh o hp)
theorem Bag.put {F H : Hp} {b l : Addr} {o : HO} (B : Bag F H b) (o' : HO) (hl : F l = some o) : Bag (upd F l o') (upd H l o') b := by
  obtain ⟨s, fb, cl, ns, p, g, z, c, h, e1, e2, e3, e4, r⟩ := B
  have n1 : b ≠ l := fun q => by rw [q, hl] at fb; cases fb
  have n2 : cl ≠ l := fun q => by rw [q, hl] at e1; cases e1
  exact ⟨same_upd s l o', by rw [upd_ne n1]; exact fb, cl, ns, p, g, z, c, h, by rw [upd_ne n2]; exact e1, e2, by rw [upd_ne n2]; exact e3, by rw [upd_ne n1]; exact e4, r⟩
theorem Bag.ne {F H : Hp} {b l : Addr} {o : HO} (B : Bag F H b) (hl : F l = some o) : l ≠ b := fun q => by
  have z := B.fb
  rw [← q, hl] at z
  cases z
/-- what _law_pick(bag, many) gives: some number below many -/
def spPick : Sp := fun vs H Q _ => ∃ (F : Hp) (b : Addr) (m : Int), vs = [.ref b, .int m] ∧ 0 < m ∧ m < 1073741824 ∧ Bag F H b ∧ ∀ (r : Int) (H' : Hp), 0 ≤ r → r < m → Bag F H' b → Q (.int r) H'
theorem fmod_lo {a m : Int} (h : 0 < m) : 0 ≤ a.fmod m := Int.fmod_nonneg_of_pos a h
theorem fmod_hi {a m : Int} (h : 0 < m) : a.fmod m < m := Int.fmod_lt_of_pos a h
theorem fmod64 (x : Int) {m : Int} (h : 0 < m) (h2 : m < 4294967296) : -(2 ^ 64) < x.fmod m ∧ x.fmod m < 2 ^ 64 := by
  have a := fmod_lo (a := x) h
  have b := fmod_hi (a := x) h
  omega
theorem fdiv_lo {a m : Int} (ha : 0 ≤ a) (h : 0 < m) : 0 ≤ a.fdiv m := by
  rw [Int.fdiv_eq_ediv_of_nonneg _ (Int.le_of_lt h)]
  exact Int.ediv_nonneg ha (Int.le_of_lt h)
theorem fdiv_hi {a m : Int} (ha : 0 ≤ a) (h : 0 < m) : a.fdiv m ≤ a := by
  rw [Int.fdiv_eq_ediv_of_nonneg _ (Int.le_of_lt h)]
  exact Int.ediv_le_self _ ha
end Fm

/-! ## FmSet -/
set_option Elab.async false
set_option maxRecDepth 100000
set_option maxHeartbeats 8000000
/-! The size of a set that is made of a row of texts, whatever texts they are. -/
namespace Fm
open PySem L2 PyProof.Rows PySem.Spec
/-- how many unlike texts, the last one first -/
def disR : List Str → Nat
  | [] => 0
  | x :: r => if x ∈ r then disR r else disR r + 1
def dis (xs : List Str) : Nat := disR xs.reverse
theorem disR_le : ∀ r : List Str, disR r ≤ r.length
  | [] => Nat.le_refl _
  | x :: r => by
    have ih := disR_le r
    unfold disR
    split
    · exact Nat.le_succ_of_le ih
    · exact Nat.succ_le_succ ih
theorem disR_full : ∀ r : List Str, disR r = r.length ↔ r.Nodup
  | [] => ⟨fun _ => .nil, fun _ => rfl⟩
  | x :: r => by
    have ih := disR_full r
    have le := disR_le r
    unfold disR
    rw [List.nodup_cons]
    split
    · rename_i h
      constructor
      · intro e
        rw [List.length_cons] at e
        omega
      · intro e
        exact absurd h e.1
    · rename_i h
      rw [List.length_cons]
      constructor
      · intro e
        exact ⟨h, ih.mp (by omega)⟩
      · intro e
        rw [ih.mpr e.2]
theorem dis_le (xs : List Str) : dis xs ≤ xs.length := by
  have h := disR_le xs.reverse
  rw [List.length_reverse] at h
  exact h
theorem dis_full (xs : List Str) : dis xs = xs.length ↔ xs.Nodup := by
  have h := disR_full xs.reverse
  rw [List.length_reverse] at h
  refine h.trans ?_
  show List.Pairwise (· ≠ ·) xs.reverse ↔ List.Pairwise (· ≠ ·) xs
  rw [List.pairwise_reverse]
  exact ⟨fun z => z.imp Ne.symm, fun z => z.imp Ne.symm⟩
theorem dis_take {xs : List Str} {i : Nat} {x : Str} (h : xs[i]? = some x) : dis (xs.take (i + 1)) = if x ∈ xs.take i then dis (xs.take i) else dis (xs.take i) + 1 := by
  have e : xs.take (i + 1) = xs.take i ++ [x] := by
    rw [List.take_add_one, h]
    rfl
  unfold dis
  rw [e, List.reverse_append]
  show (if x ∈ (xs.take i).reverse then _ else _) = _
  by_cases m : x ∈ xs.take i
  · rw [if_pos m, if_pos (List.mem_reverse.mpr m)]
    rfl
  · rw [if_neg m, if_neg fun z => m (List.mem_reverse.mp z)]
    rfl
abbrev among (l : List Str) : Str → Bool := fun k => l.any (· == k)
theorem among_mem {l : List Str} {x : Str} : among l x = true ↔ x ∈ l := by
  show l.any (· == x) = true ↔ x ∈ l
  rw [List.any_eq_true]
  constructor
  · rintro ⟨y, hy, e⟩
    rw [← eq_of_beq e]
    exact hy
  · intro h
    exact ⟨x, h, beq_self_eq_true x⟩
theorem among_take {xs : List Str} {i : Nat} {x : Str} (h : xs[i]? = some x) (k : Str) : (among (xs.take i) k || decide (k = x)) = among (xs.take (i + 1)) k := by
  have e : xs.take (i + 1) = xs.take i ++ [x] := by
    rw [List.take_add_one, h]
    rfl
  show _ = (xs.take (i + 1)).any (· == k)
  rw [e, List.any_append]
  by_cases q : k = x
  · subst q
    simp
  · have q' : (x == k) = false := by simpa using fun z : x = k => q z.symm
    simp [q, q']
section
variable {prog : Program} {w : World} {A : Around} {R : Result → Shared → Prop} {I : Addr} {fp wr : List Addr} {G : Array GenState → Array GenState → Prop} {n : Nat} {Pz : Nat → Value → Prop} {St : Nat → Shared → Prop}
/-- the loop that fills a set: behind i items it holds those items -/
theorem fill_strs (W : WalksS prog w A.in1 I fp wr G n Pz St) (S : Addr) (hS : S ∉ fp) (xs : List Str) (hn : xs.length = n) (hb : n + 1 < scanBound) (hv : ∀ i v, Pz i v → ∃ t x, v = .str x t ∧ xs[i]? = some x) :
    ∀ (k i : Nat) (s : Shared), n - i = k → i ≤ n → St i s → s.heap.SetOf (PySem.strKind prog w) S (among (xs.take i)) (dis (xs.take i)) →
      (∀ s', Moved (S :: wr) G s s' → s'.heap.SetOf (PySem.strKind prog w) S (among xs) (dis xs) → R (.ok (.ret .none)) s') →
      codeAny (model prog w) A (.builtin "set.update.loop" ⟨[.ref S, .ref I], []⟩) R s := by
  have out : S ∉ wr := fun z => hS (W.sub _ z)
  have more : ∀ b ∈ wr, b ∈ S :: wr := fun b z => List.mem_cons_of_mem _ z
  intro k
  induction k with
  | zero =>
    intro i s e0 le st set fin
    obtain rfl : i = n := by omega
    refine codeAny_builtin F.entry_set_update_loop ?_
    rw [Around.under_plainId F.plain_set_update_loop _]
    show wpAny _ A.in1 (pyNext (.ref I) >>= _) _ _ s
    refine wpAny_bind (W.done s _ _ st fun s' mv => ?_)
    show wpAny _ A.in1 (ret Value.none) _ _ s'
    refine wpAny_pure (fin s' (mv.mono more) ?_)
    obtain ⟨o, es, ep, t, ho, rest⟩ := set
    rw [← hn, List.take_length] at rest
    exact ⟨o, es, ep, t, mv.heap S _ out ho, rest⟩
  | succ k ih =>
    intro i s e0 le st set fin
    have lt : i < n := by omega
    refine codeAny_builtin F.entry_set_update_loop ?_
    rw [Around.under_plainId F.plain_set_update_loop _]
    show wpAny _ A.in1 (pyNext (.ref I) >>= _) _ _ s
    refine wpAny_bind (W.item i s _ _ lt st fun v s' pv st' mv => ?_)
    obtain ⟨t, x, rfl, hx⟩ := hv i v pv
    have set' : s'.heap.SetOf (PySem.strKind prog w) S (among (xs.take i)) (dis (xs.take i)) := by
      obtain ⟨o, es, ep, tb, ho, rest⟩ := set
      exact ⟨o, es, ep, tb, mv.heap S _ out ho, rest⟩
    show wpAny _ A.in1 (holding [Value.str x t] (setAdd S (.str x t)) >>= _) _ _ s'
    refine wpAny_bind (wpAny_holding ?_)
    unfold setAdd
    refine wpAny_holding ?_
    refine wpAny_bind ((PySem.strKind prog w).pyHash (k := x) (strKind_is _ _ _ _) ?_)
    have small : dis (xs.take i) + 1 < scanBound := by
      have z := dis_le (xs.take i)
      rw [List.length_take] at z
      omega
    refine wpAny_setAddHashed_of (knd := PySem.strKind prog w) (s := { s' with toks := s'.toks + 1 }) (strKind_is _ _ _ _) rfl set' small fun h' sb set2 => ?_
    have set3 : h'.SetOf (PySem.strKind prog w) S (among (xs.take (i + 1))) (dis (xs.take (i + 1))) := by
      refine SetOf_congr set2 (fun k' => among_take hx k') ?_
      rw [dis_take hx]
      by_cases m : x ∈ xs.take i
      · rw [if_pos m, if_pos (among_mem.mpr m)]
      · rw [if_neg m, if_neg fun z => m (among_mem.mp z)]
    refine wpAny_pure ⟨plainId_quiet F.plain_set_update_loop _, ih (i + 1) _ (by omega) lt (W.frame _ s' _ _ st' (Nat.le_succ _) fun b hb o e => ?_) set3 fun s3 mv3 done => ?_⟩
    · rw [sb.2 b fun z : b = S => hS (by rw [← z]; exact hb)]
      exact e
    · refine fin s3 (Moved.trans W.gtrans ((mv.mono more).then_heap (Nat.le_succ _) fun b o hb e => ?_) mv3) done
      rw [sb.2 b fun z : b = S => hb (by rw [z]; exact List.mem_cons_self)]
      exact e
end
def newSet (led : Bool) : Obj := { cls := .type "set", dict := none, data := .set #[] 0 (.fresh 0 0 led) }
section
variable {prog : Program} {w : World} {A : Around} {E : Value → Shared → Prop} {s : Shared}
set_option maxHeartbeats 16000000 in
/-- set(xs), xs a list of texts -/
theorem set_of_list {l : Addr} {items : Array Value} {xs : List Str} {Q : Value → Shared → Prop} (hh : A.handled = none) (hl : s.heap.IsList l items) (hi : StrsAre items.toList xs) (hn : xs.length + 1 < scanBound)
    (k : ∀ (h' : Heap) (tk : Nat), h'.SetOf (PySem.strKind prog w) s.heap.objs.size (among xs) (dis xs) → (∀ b o, b < s.heap.objs.size → s.heap.get? b = some o → h'.get? b = some o) → Q (.ref s.heap.objs.size) { s with heap := h', toks := tk }) :
    wpAny (model prog w) A (call (.type "set") [.ref l]) Q E s := by
  obtain ⟨cc, tl, mro⟩ := PySem.F.called_set.mro
  have made := PySem.F.called_set.made
  have isub := PySem.F.called_set.sub
  refine wpAny_call (codeAny_of_tree ?_)
  show wpAny _ _ (callAny (.type "set") _) _ _ _
  refine wpAny_pure ⟨Code.quiet_builtin _ (by decide +kernel), codeAny_builtin PySem.F.entry_type_call ?_⟩
  rw [Around.under_plain (weight_type_call_type "set" [.ref l] []) rfl]
  have f1 := PySem.F.called_set.notType
  have f2 := PySem.F.called_set.canCreate
  have f3 := PySem.F.typeCall_set_1 (.ref l)
  repeat (any_goals (first | assumption | wp_step))
  refine codeAny_mono (code_set_new_1 (.ref l) (E := E) (Q₁ := fun ob s1 => ∃ led : Bool, ob = .ref s.heap.objs.size ∧ s1 = { s with heap := s.heap.push (newSet led) }) fun led => ⟨led, rfl, rfl⟩) fun r s1 hr => ?_
  cases r with
  | error e => exact hr
  | ok fl =>
    cases fl with
    | next => exact hr.elim
    | brk => exact hr.elim
    | cont => exact hr.elim
    | ret ob =>
      obtain ⟨led, rfl, rfl⟩ := hr
      have atS : (s.heap.push (newSet led)).get? s.heap.objs.size = some (newSet led) := Heap.get?_push_size _ rfl
      have ty : Shared.TypeIs { s with heap := s.heap.push (newSet led) } (.ref s.heap.objs.size) "set" := ⟨_, atS, rfl⟩
      have i1 := PySem.F.called_set.init.lookup
      have i2 := PySem.F.called_set.init.bind (.ref s.heap.objs.size)
      repeat (any_goals (first | assumption | wp_step))
      refine codeAny_mono (codeAny_call_builtin (R := wants (fun r s2 => r = .none ∧ ∃ h' tk, s2 = { s with heap := h', toks := tk } ∧ h'.SetOf (PySem.strKind prog w) s.heap.objs.size (among xs) (dis xs) ∧ (∀ b o, b < s.heap.objs.size → s.heap.get? b = some o → h'.get? b = some o)) E) PySem.F.called_set.init.plain PySem.F.entry_set_init (check_set_init_1 ty ?_)) fun r2 s2 hr2 => ?_
      · obtain ⟨ol, hol, hcl, nl, hdl⟩ := hl
        obtain ⟨oc, od, oda, osl⟩ := ol
        simp only at hcl hdl
        subst hcl hdl
        have hol' : (s.heap.push (newSet led)).get? l = some { cls := .type "list", dict := od, data := .seq items nl, slots := osl } := Heap.get?_push_of_some _ hol
        have g1 := PySem.F.sub_list_set
        have g2 := PySem.F.sub_list_frozenset
        have g3 : (Value.type "list" == Value.type "dict") = false := by decide
        have hl1 : (s.heap.push (newSet led)).IsList l items := ⟨_, hol', rfl, nl, rfl⟩
        unfold newSet at hol' hl1 ty atS ⊢
        unfold Builtin.«set.__init__» noKeywords Builtin.Frozenset.updateFrom
        generalize hPI : pyIter = PI
        wp_walk
        subst hPI
        refine wpAny_pyIter_list hl1 ?_
        refine wpAny_bind (wpAny_runValue ?_)
        have ls : l < s.heap.objs.size := Heap.lt_size hol
        have hh3 : A.in1.in1.in1.handled = none := by simp [hh]
        have sz : (s.heap.push (newSet led)).objs.size = s.heap.objs.size + 1 := Heap.size_push _ _
        unfold newSet at sz
        have n1 : l ≠ (s.heap.push { cls := .type "set", dict := none, data := .set #[] 0 (.fresh 0 0 led) }).objs.size := by
          rw [sz]
          exact Nat.ne_of_lt (Nat.lt_succ_of_lt ls)
        have n2 : s.heap.objs.size ∉ [(s.heap.push { cls := .type "set", dict := none, data := .set #[] 0 (.fresh 0 0 led) }).objs.size, l] := by
          rw [sz]
          intro z
          rcases List.mem_cons.mp z with z | z
          · exact absurd z (Nat.ne_of_lt (Nat.lt_succ_self _))
          · exact absurd (List.mem_singleton.mp z) (Nat.ne_of_gt ls)
        have hsz : xs.length = items.size := by rw [← StrsAre.len_eq hi, Array.length_toList]
        have hval : ∀ (i : Nat) (v : Value), items[i]? = some v → ∃ t x, v = .str x t ∧ xs[i]? = some x := fun i v hv => by
          obtain ⟨t, e⟩ := SS.strs_at hi i v (by rw [Array.getElem?_toList]; exact hv)
          have hlt : i < xs.length := by
            rw [hsz]
            exact (Array.getElem?_eq_some_iff.mp hv).1
          exact ⟨t, xs[i], by
            rw [e, List.getD_eq_getElem?_getD, List.getElem?_eq_getElem hlt]
            rfl, List.getElem?_eq_getElem hlt⟩
        refine fill_strs ((Walks.list hh3 _ l n1 items).toS) s.heap.objs.size n2 xs hsz (by rw [← hsz]; exact hn) hval (items.size - 0) 0 _ (by omega) (Nat.zero_le _)
          ⟨⟨_, Heap.get?_push_size _ rfl, rfl, rfl⟩, (hl1.push _)⟩ ?hS0 ?hR
        case hS0 =>
          exact SetOf_congr ((setObjOf_fresh (knd := PySem.strKind prog w) led).setOf (Heap.get?_push_of_some _ atS) (by unfold scanBound; omega)) (fun _ => rfl) rfl
        case hR =>
          intro s' mv set'
          obtain ⟨h', g', d', tk', os'⟩ := s'
          obtain rfl : g' = s.gens := mv.gens
          obtain rfl : d' = s.drawn := mv.drawn
          obtain rfl : os' = s.os := mv.os
          show wpAny _ _ _ _ _ _
          refine wpAny_pure ?_
          show wpAny _ _ (ret Value.none) _ _ _
          refine wpAny_pure ⟨rfl, h', tk', rfl, set', fun b o hb e => ?_⟩
          refine mv.heap b o ?_ (Heap.get?_push_of_some _ (Heap.get?_push_of_some _ e))
          rw [sz]
          intro z
          rcases List.mem_cons.mp z with z | z
          · exact absurd z (Nat.ne_of_lt hb)
          · exact absurd (List.mem_singleton.mp z) (Nat.ne_of_lt (Nat.lt_succ_of_lt hb))
      · cases r2 with
        | error e => exact hr2
        | ok fl2 =>
          cases fl2 with
          | next => exact hr2.elim
          | brk => exact hr2.elim
          | cont => exact hr2.elim
          | ret r =>
            obtain ⟨rfl, h', tk, rfl, set', old⟩ := hr2
            repeat (any_goals (first | assumption | wp_step))
            exact k _ _ set' old

set_option maxHeartbeats 16000000 in
/-- set(xs), xs a tuple of texts -/
theorem set_of_tuple {l : Addr} {items : Array Value} {xs : List Str} {Q : Value → Shared → Prop} (hh : A.handled = none) (hl : s.heap.IsTuple l items) (hi : StrsAre items.toList xs) (hn : xs.length + 1 < scanBound)
    (k : ∀ (h' : Heap) (tk : Nat), h'.SetOf (PySem.strKind prog w) s.heap.objs.size (among xs) (dis xs) → (∀ b o, b < s.heap.objs.size → s.heap.get? b = some o → h'.get? b = some o) → Q (.ref s.heap.objs.size) { s with heap := h', toks := tk }) :
    wpAny (model prog w) A (call (.type "set") [.ref l]) Q E s := by
  obtain ⟨cc, tl, mro⟩ := PySem.F.called_set.mro
  have made := PySem.F.called_set.made
  have isub := PySem.F.called_set.sub
  refine wpAny_call (codeAny_of_tree ?_)
  show wpAny _ _ (callAny (.type "set") _) _ _ _
  refine wpAny_pure ⟨Code.quiet_builtin _ (by decide +kernel), codeAny_builtin PySem.F.entry_type_call ?_⟩
  rw [Around.under_plain (weight_type_call_type "set" [.ref l] []) rfl]
  have f1 := PySem.F.called_set.notType
  have f2 := PySem.F.called_set.canCreate
  have f3 := PySem.F.typeCall_set_1 (.ref l)
  repeat (any_goals (first | assumption | wp_step))
  refine codeAny_mono (code_set_new_1 (.ref l) (E := E) (Q₁ := fun ob s1 => ∃ led : Bool, ob = .ref s.heap.objs.size ∧ s1 = { s with heap := s.heap.push (newSet led) }) fun led => ⟨led, rfl, rfl⟩) fun r s1 hr => ?_
  cases r with
  | error e => exact hr
  | ok fl =>
    cases fl with
    | next => exact hr.elim
    | brk => exact hr.elim
    | cont => exact hr.elim
    | ret ob =>
      obtain ⟨led, rfl, rfl⟩ := hr
      have atS : (s.heap.push (newSet led)).get? s.heap.objs.size = some (newSet led) := Heap.get?_push_size _ rfl
      have ty : Shared.TypeIs { s with heap := s.heap.push (newSet led) } (.ref s.heap.objs.size) "set" := ⟨_, atS, rfl⟩
      have i1 := PySem.F.called_set.init.lookup
      have i2 := PySem.F.called_set.init.bind (.ref s.heap.objs.size)
      repeat (any_goals (first | assumption | wp_step))
      refine codeAny_mono (codeAny_call_builtin (R := wants (fun r s2 => r = .none ∧ ∃ h' tk, s2 = { s with heap := h', toks := tk } ∧ h'.SetOf (PySem.strKind prog w) s.heap.objs.size (among xs) (dis xs) ∧ (∀ b o, b < s.heap.objs.size → s.heap.get? b = some o → h'.get? b = some o)) E) PySem.F.called_set.init.plain PySem.F.entry_set_init (check_set_init_1 ty ?_)) fun r2 s2 hr2 => ?_
      · obtain ⟨ol, hol, hcl, nl, hdl⟩ := hl
        obtain ⟨oc, od, oda, osl⟩ := ol
        simp only at hcl hdl
        subst hcl hdl
        have hol' : (s.heap.push (newSet led)).get? l = some { cls := .type "tuple", dict := od, data := .seq items nl, slots := osl } := Heap.get?_push_of_some _ hol
        have g1 := PySem.F.sub_tuple_set
        have g2 := PySem.F.sub_tuple_frozenset
        have g3 : (Value.type "tuple" == Value.type "dict") = false := by decide
        have hl1 : (s.heap.push (newSet led)).IsTuple l items := ⟨_, hol', rfl, nl, rfl⟩
        unfold newSet at hol' hl1 ty atS ⊢
        unfold Builtin.«set.__init__» noKeywords Builtin.Frozenset.updateFrom
        generalize hPI : pyIter = PI
        wp_walk
        subst hPI
        refine wpAny_pyIter_tuple hl1 ?_
        refine wpAny_bind (wpAny_runValue ?_)
        have ls : l < s.heap.objs.size := Heap.lt_size hol
        have hh3 : A.in1.in1.in1.handled = none := by simp [hh]
        have sz : (s.heap.push (newSet led)).objs.size = s.heap.objs.size + 1 := Heap.size_push _ _
        unfold newSet at sz
        have n1 : l ≠ (s.heap.push { cls := .type "set", dict := none, data := .set #[] 0 (.fresh 0 0 led) }).objs.size := by
          rw [sz]
          exact Nat.ne_of_lt (Nat.lt_succ_of_lt ls)
        have n2 : s.heap.objs.size ∉ [(s.heap.push { cls := .type "set", dict := none, data := .set #[] 0 (.fresh 0 0 led) }).objs.size, l] := by
          rw [sz]
          intro z
          rcases List.mem_cons.mp z with z | z
          · exact absurd z (Nat.ne_of_lt (Nat.lt_succ_self _))
          · exact absurd (List.mem_singleton.mp z) (Nat.ne_of_gt ls)
        have hsz : xs.length = items.size := by rw [← StrsAre.len_eq hi, Array.length_toList]
        have hval : ∀ (i : Nat) (v : Value), items[i]? = some v → ∃ t x, v = .str x t ∧ xs[i]? = some x := fun i v hv => by
          obtain ⟨t, e⟩ := SS.strs_at hi i v (by rw [Array.getElem?_toList]; exact hv)
          have hlt : i < xs.length := by
            rw [hsz]
            exact (Array.getElem?_eq_some_iff.mp hv).1
          exact ⟨t, xs[i], by
            rw [e, List.getD_eq_getElem?_getD, List.getElem?_eq_getElem hlt]
            rfl, List.getElem?_eq_getElem hlt⟩
        refine fill_strs ((Walks.tuple hh3 _ l n1 items).toS) s.heap.objs.size n2 xs hsz (by rw [← hsz]; exact hn) hval (items.size - 0) 0 _ (by omega) (Nat.zero_le _)
          ⟨⟨_, Heap.get?_push_size _ rfl, rfl, rfl⟩, (hl1.push _)⟩ ?hS0 ?hR
        case hS0 =>
          exact SetOf_congr ((setObjOf_fresh (knd := PySem.strKind prog w) led).setOf (Heap.get?_push_of_some _ atS) (by unfold scanBound; omega)) (fun _ => rfl) rfl
        case hR =>
          intro s' mv set'
          obtain ⟨h', g', d', tk', os'⟩ := s'
          obtain rfl : g' = s.gens := mv.gens
          obtain rfl : d' = s.drawn := mv.drawn
          obtain rfl : os' = s.os := mv.os
          show wpAny _ _ _ _ _ _
          refine wpAny_pure ?_
          show wpAny _ _ (ret Value.none) _ _ _
          refine wpAny_pure ⟨rfl, h', tk', rfl, set', fun b o hb e => ?_⟩
          refine mv.heap b o ?_ (Heap.get?_push_of_some _ (Heap.get?_push_of_some _ e))
          rw [sz]
          intro z
          rcases List.mem_cons.mp z with z | z
          · exact absurd z (Nat.ne_of_lt hb)
          · exact absurd (List.mem_singleton.mp z) (Nat.ne_of_lt (Nat.lt_succ_of_lt hb))
      · cases r2 with
        | error e => exact hr2
        | ok fl2 =>
          cases fl2 with
          | next => exact hr2.elim
          | brk => exact hr2.elim
          | cont => exact hr2.elim
          | ret r =>
            obtain ⟨rfl, h', tk, rfl, set', old⟩ := hr2
            repeat (any_goals (first | assumption | wp_step))
            exact k _ _ set' old
end
section
variable {X : Cx}
/-- len(set(xs)) -/
def tLenS (K : PySem.W.Frag) (ta : TE) : TE := fun σ H Q => ta σ H fun x H1 => ∃ (l : Addr) (xs : List Str), x = .ref l ∧ (SqL K H1 l (xs.map V.str) ∨ SqT K H1 l (xs.map V.str)) ∧ xs.length ≤ 100 ∧ Q (.int (dis xs)) H1
theorem small100 {n : Nat} (h : n ≤ 100) : n + 1 < scanBound := by
  unfold scanBound
  omega
theorem pe_lenS {a : Expr} {ta : TE} {p p2 q pos : Pos} (hc : X.calm = true) (hm : X.mg "len" = none) (hm2 : X.mg "set" = none) (ha : PE X a ta) (hg : Gl X "len" := by rfl) (hg2 : Gl X "set" := by rfl)
    (na : starEach [a] X.env = (false, eval a X.env) :: starEach [] X.env := by rfl) : PE X (.Call (.Name "len" p) [.Call (.Name "set" p2) [a] [] q] [] pos) (tLenS X.K ta) := by
  refine ⟨fun pins s σ H Q I h => ?_⟩
  refine Call_ (ld_blt I hg hm boot_len ?_)
  refine callWith_builtin1 (args_cons ?_ rfl) rfl rfl
  refine Call_ (ld_blt I hg2 hm2 boot_set ?_)
  refine callWith_type1 (args_cons (thn (ha.run pins s σ H _ I h) fun v s1 ⟨x, H1, I1, r1, q1⟩ => args_nil ?_) na) na rfl
  obtain ⟨l, xs, rfl, hq, h1, q1⟩ := q1
  cases r1
  have fin : ∀ (h' : Heap) (tk : Nat), h'.SetOf (PySem.strKind X.prog X.w) s1.heap.objs.size (among xs) (dis xs) → (∀ b o, b < s1.heap.objs.size → s1.heap.get? b = some o → h'.get? b = some o) →
      wpAny (model X.prog X.w) X.A (spliced (backTo pos (starEach [] X.env))) (fun vs s2 => wpAny (model X.prog X.w) X.A (call (.builtin "len") (Value.ref s1.heap.objs.size :: vs)) (EP X pins σ Q) X.xe s2) X.xe { s1 with heap := h', toks := tk } := fun h' tk hS hk => by
    refine args_nil ?_
    obtain ⟨o, es, ep, t, ho, hex, hd, _, _, _, hf, hn⟩ := hS
    have I2 : Inv X pins σ H1 { s1 with heap := h', toks := tk } := I1.kept fun b o e => hk b o (Heap.lt_size e) e
    have le := dis_le xs
    refine call_len_set ho hex hd hf (by rw [hn]; omega) ⟨.int (dis xs), H1, I2.tok _, ⟨_, by rw [hn]⟩, q1⟩
  rcases hq with hq | hq
  · obtain ⟨its, r, pl, hz⟩ := I1.list hq
    exact set_of_list (I1.ok.hd hc) pl.isList (by simpa using strsAre_of r) (small100 h1) fin
  · obtain ⟨its, r, pl, hz⟩ := I1.tuple hq
    exact set_of_tuple (I1.ok.hd hc) pl (by simpa using strsAre_of r) (small100 h1) fin
end
end Fm

/-! ## FmIter -/
set_option Elab.async false
set_option maxRecDepth 100000
set_option maxHeartbeats 4000000
/-! Walks over what may be a list or a tuple; enumerate of a tuple. -/
namespace Fm
open PySem L2 PySem.Spec PyProof.Rows
open PySem.SeqAt
open MeetsSeq MeetsSeq2 MeetsSeq3 SeqRoads2
theorem draws_tuple {prog : Program} {w : World} {A : Around} (hh : A.handled = none) (it l : Addr) (hne : l ≠ it) (items : Array Value) :
    Draws prog w A it [it, l] items.size (fun i v => items[i]? = some v) (fun i h => h.IsTupleIter it l i ∧ h.IsTuple l items) where
  live := fun _ _ z => let ⟨o, ho, _⟩ := z.1; ⟨o, ho⟩
  frame := fun _ _ _ z k => ⟨z.1.at fun o e => k it (by simp) o e, let ⟨o, ho, r⟩ := z.2; ⟨o, k l (by simp) o ho, r⟩⟩
  item := fun i s Q E hi z q => RZ.nextOf_tuple_item z.1 z.2 (x := items[i]) (by simp [hi]) fun h' it' sb => q _ h' s.toks (by simp [hi]) ⟨it', let ⟨o, ho, r⟩ := z.2; ⟨o, (sb.2 l hne).trans ho, r⟩⟩ sb
  done := fun s Q E z q => RZ.nextOf_tuple_end hh z.1 z.2 (by simp) q
theorem meets_enum_tuple (l : Addr) (items : Array Value) (n : Nat) (dct : Option Addr) (sl : Array (Option Value)) :
    Meets (Builtin.«enumerate.__new__» ⟨[.type "enumerate", .ref l], []⟩) (fun _ R s => s.heap.get? l = some { cls := .type "tuple", dict := dct, data := .seq items n, slots := sl } ∧
      R (.ok (.ret (.ref (s.heap.push { cls := .type "tuple_iterator", data := .fields #[.ref l, .int 0 0] }).objs.size)))
        { s with heap := (s.heap.push { cls := .type "tuple_iterator", data := .fields #[.ref l, .int 0 0] }).push { cls := .type "enumerate", data := .fields #[.none, .bool false, .ref s.heap.objs.size, rawInt 0, .none, .none] } }) :=
  .of_wp fun prog w A R s h => by
    obtain ⟨hp, g, d, tk, os⟩ := s
    obtain ⟨hl, h⟩ := h
    have sub := sub_enumerate
    have tup : Heap.IsTuple (Shared.heap ⟨hp, g, d, tk, os⟩) l items := ⟨_, hl, rfl, n, rfl⟩
    wp_walk using AutoSeq1.wpAny_loadPart' hl
    refine wpAny_stack_any fun st => wpAny_pure ?_
    split
    · rename_i c _ _ _ _ _
      cases (c == Value.type "enumerate") <;>
        (wp_walk using AutoSeq1.wpAny_loadPart' hl, wpAny_pyIter_tuple tup; exact ⟨_, rfl, h⟩)
    · wp_walk using AutoSeq1.wpAny_loadPart' hl, wpAny_pyIter_tuple tup
      exact ⟨_, rfl, h⟩
section
variable {prog : Program} {w : World} {A : Around} {E : Value → Shared → Prop} {s : Shared}
theorem call_enum_tuple {l : Addr} {items : Array Value} {Q : Value → Shared → Prop} (ht : s.heap.IsTuple l items)
    (k : ∀ h', IsEnum h' (s.heap.objs.size + 1) s.heap.objs.size 0 .none → h'.IsTupleIter s.heap.objs.size l 0 → (∀ b o, s.heap.get? b = some o → h'.get? b = some o) → Q (.ref (s.heap.objs.size + 1)) { s with heap := h' }) :
    wpAny (model prog w) A (call (.type "enumerate") [.ref l]) Q E s := by
  obtain ⟨⟨c, dct, dt, sl⟩, hl, hc, n, hd⟩ := ht
  simp only at hc hd
  subst hc hd
  refine callType_new F.called_enumerate (by decide) (F.typeCall_enumerate_1 _) (F.newCall_enumerate_1 _) (fun ob => F.args_object_init_2 ob _) F.entry_enumerate_new (meets_enum_tuple l items n dct sl) ⟨hl, ?_⟩
  have sz : (s.heap.push { cls := .type "tuple_iterator", data := .fields #[.ref l, .int 0 0] }).objs.size = s.heap.objs.size + 1 := Heap.size_push ..
  show _ ∧ _
  have he := Heap.get?_push_size (s.heap.push { cls := .type "tuple_iterator", data := .fields #[.ref l, .int 0 0] }) (o := { cls := .type "enumerate", data := .fields #[.none, .bool false, .ref s.heap.objs.size, rawInt 0, .none, .none] }) rfl
  rw [sz] at he ⊢
  exact ⟨⟨_, he, rfl⟩, k _ he ⟨_, Heap.get?_push_of_some _ (Heap.get?_push_size _ rfl), rfl, rfl⟩ fun b o x => Heap.get?_push_of_some _ (Heap.get?_push_of_some _ x)⟩
end
/-- the tuple at a, its items in new pairs with their numbers -/
def Iet (K : PySem.W.Frag) (a : Addr) : It :=
  ⟨fun i H => ∃ xs x, SqT K H a xs ∧ xs[i]? = some x, fun i H v H' => ∃ T x, v = .ref T ∧ H T = none ∧ H' = upd H T (.tup [.int (i : Nat), x]) ∧ ∀ xs, SqT K H a xs → xs[i]? = some x, fun i H => ∃ xs, SqT K H a xs ∧ xs.length ≤ i⟩
theorem turn_et {P : Program} {w : World} {K : PySem.W.Frag} {elts : List Expr} {kk : Nat} {tpos : Pos} (a e it : Addr) (hai : a ≠ it) (hae : e ≠ a) :
    Turn P w K (.Tuple elts kk tpos) (Iet K a) [e, it] e (fun i h => (∃ old, IsEnum h e it ((i : Nat) : Int) old) ∧ h.IsTupleIter it a i ∧ e ≠ it) where
  mem := List.mem_cons_self
  obj := fun i h st b hb => by
    obtain ⟨⟨old, he⟩, ⟨o, ho, hc, hd⟩, _⟩ := st
    rcases List.mem_cons.mp hb with z | z
    · rw [z]
      exact ⟨_, he, fun v q => nomatch q⟩
    · rw [List.mem_singleton.mp z]
      exact ⟨o, ho, fun v q => by rw [hd] at q; cases q⟩
  keep := fun i h h' st k => by
    obtain ⟨⟨old, he⟩, hi, hne⟩ := st
    exact ⟨⟨old, k e (by simp) _ he⟩, hi.at fun o q => k it (by simp) o q, hne⟩
  item := by
    intro X hP hw hK hc i pins s σ H E I hf st hg
    subst hP hw hK
    obtain ⟨⟨old, he⟩, hit, hne⟩ := st
    obtain ⟨xs, x, hq, hx⟩ := hg
    obtain ⟨its, rv, tp, hz⟩ := I.tuple hq
    obtain ⟨u, hu, ru⟩ := rv.get hx
    have el : e < s.heap.objs.size := Heap.lt_size he
    have il : it < s.heap.objs.size := by
      obtain ⟨_, q, _⟩ := hit
      exact Heap.lt_size q
    have lt : i < its.toArray.size := by
      rw [List.size_toArray]
      exact (List.getElem?_eq_some_iff.mp hu).1
    have out : e ∉ [it, a] := by
      intro z
      rcases List.mem_cons.mp z with z | z
      · exact hne z
      · exact hae (List.mem_singleton.mp z)
    refine wpAny_pyNext_enum_itemD (draws_tuple (by show X.A.in1.handled = none; simpa using I.ok.hd hc) it a hai its.toArray) he ⟨hit, tp⟩ lt hne out fun y h' tk py ho hst' hT hsz hk => ?_
    obtain rfl : u = y := by
      have z : its.toArray[i]? = some u := by simpa using hu
      rw [z] at py
      exact Option.some.inj py
    refine ⟨_, rfl, wpAny_letOwnedTupleGo_enum (s := { s with heap := h', toks := tk + 1 }) ho fun h2 he2 sb => ?_⟩
    have hT2 : h2.get? s.heap.objs.size = some { cls := .type "tuple", data := .seq #[.int i tk, u] } := (sb.2 _ (Nat.ne_of_gt el)).trans hT
    have new : ObjOk X.prog X.w (upd H s.heap.objs.size (.tup [.int (i : Nat), x])) h2 s.heap.objs.size (.tup [.int (i : Nat), x]) :=
      ⟨by show 2 ≤ sizeLine; decide, [.int i tk, u], .cons ⟨_, rfl⟩ (.cons ru .nil), ⟨_, hT2, rfl, _, rfl⟩⟩
    have I1 : Inv X pins σ (upd H s.heap.objs.size (.tup [.int (i : Nat), x])) { s with heap := h2, toks := tk + 1 } :=
      I.turnedNew (ch := [e, it]) (fun b ob hb q => (sb.2 b (fun z => hb (by simp [z]))).trans (hk b ob (fun z => hb (by simp [z])) (fun z => hb (by simp [z])) q)) hf (Nat.le_refl _) new
    refine ⟨.ref s.heap.objs.size, _, I1, rfl, ⟨_, x, rfl, I.hok.fresh (Nat.le_refl _), rfl, fun ys hy => by rw [I.tuple_inj hy hq]; exact hx⟩, ⟨⟨u, ?_⟩, hst'.1.at fun o q => (sb.2 it (Ne.symm hne)).trans q, hne⟩, fun b hb => ?_⟩
    · rw [show ((i + 1 : Nat) : Int) = (i : Int) + 1 from rfl]
      exact he2
    · have lt' : b < s.heap.objs.size := by
        rcases List.mem_cons.mp hb with z | z
        · rw [z]; exact el
        · rw [List.mem_singleton.mp z]; exact il
      rw [upd_ne (Nat.ne_of_lt lt')]
      exact (hf b hb).1
  done := by
    intro X hP hw hK hc i pins s σ H E I hf st hg
    subst hP hw hK
    obtain ⟨⟨old, he⟩, hit, hne⟩ := st
    obtain ⟨xs, hq, hx⟩ := hg
    obtain ⟨its, rv, tp, hz⟩ := I.tuple hq
    obtain ⟨f0, f1, f2, f3, f4, f5⟩ := hf it (by simp)
    have len := rv.length
    have hh : X.A.in1.handled = none := by simpa using I.ok.hd hc
    have hT : s.TypeIs (.ref e) "enumerate" := ⟨_, he, rfl⟩
    unfold pyNext
    refine wpAny_bind (wpAny_attempt (wpAny_callSpecial?_slot (name := Str.ofString "__next__") hT F.slot_enumerate_next (wpAny_call_entry F.slot_enumerate_next hT F.entry_enumerate_next ?_ (F.args_enumerate_next_1 _))))
    show wpAny _ _ (field (.ref e) 2 >>= _) _ _ _
    refine wpAny_bind (wpAny_field he rfl (x := .ref it) rfl ?_)
    refine wpAny_bind (RZ.nextOf_tuple_end hh hit tp (by simp; omega) fun h' x he' hx' => ?_)
    obtain ⟨o, ho, hc'⟩ := hx'
    refine wpAny_bind (wpAny_isInstance (T := "StopIteration") (b := true) ⟨o, ho, hc'⟩ isSubtype_stop ?_)
    exact wpAny_pure ⟨rfl, I.turned (t' := s.toks) (fun b o hb q => he' b o hb q) f0 f1 f3 f4 f5⟩
  self := fun A i s Q E st h => let ⟨⟨_, he⟩, _⟩ := st; wpAny_pyIter_enum he h
theorem walk_et {K : PySem.W.Frag} {a : Addr} {xs : List V} : Walk (Iet K a) xs.length (fun H => SqT K H a xs) (YPair (fun i => some (.int (i : Nat))) (fun i => xs[i]?)) := by
  refine ⟨fun i _ hi q => ⟨xs, xs[i], q, by simp [hi]⟩, fun _ q => ⟨xs, q, Nat.le_refl _⟩, fun i H v H' _ q y => ?_⟩
  obtain ⟨T, x, h1, h2, h3, h4⟩ := y
  exact ⟨T, .int (i : Nat), x, h1, h2, h3, rfl, h4 xs q⟩
section
variable {X : Cx} {tg l : Expr} {tl : TE}
/-- the walk of a list or of a tuple, whichever it is -/
def SeqGo (K : PySem.W.Frag) (H : Hp) (a : Addr) (xs : List V) (R : It → Hp → Prop) : Prop := (SqL K H a xs ∧ R (Itl K a) H) ∨ (SqT K H a xs ∧ R (Itt K a) H)
def EnumGo (K : PySem.W.Frag) (H : Hp) (a : Addr) (xs : List V) (R : It → Hp → Prop) : Prop := (SqL K H a xs ∧ R (Ite K a) H) ∨ (SqT K H a xs ∧ R (Iet K a) H)
/-- over a list or a tuple -/
def iAny (K : PySem.W.Frag) (tl : TE) : TI := fun σ H R => tl σ H fun x H1 => ∃ (a : Addr) (xs : List V), x = .ref a ∧ SeqGo K H1 a xs R
theorem pi_any (hl : PE X l tl) : PI X tg l (iAny X.K tl) := by
  refine ⟨fun pins s σ H R I h => thn (hl.run pins s σ H _ I h) fun v s1 ⟨x, H1, I1, r1, a, xs, ex, q⟩ => ?_⟩
  subst ex
  cases r1
  have free : ∀ b ∈ [s1.heap.objs.size], b = s1.heap.objs.size := fun b hb => List.mem_singleton.mp hb
  rcases q with ⟨hq, q⟩ | ⟨hq, q⟩
  · obtain ⟨its, rv, lp, hz⟩ := I1.list hq
    refine wpAny_pyIter_list lp.isList ⟨s1.heap.objs.size, [s1.heap.objs.size], _, _, H1, rfl, I1.kept (t' := s1.toks) fun b o e => Heap.get?_push_of_some _ e, turn_list a _, ⟨_, Heap.get?_push_size _ rfl, rfl, rfl⟩, fun b hb => ?_, q⟩
    rw [free b hb]
    exact I1.fpOk (Nat.le_refl _) (I1.hok.fresh (Nat.le_refl _))
  · obtain ⟨its, rv, tp, hz⟩ := I1.tuple hq
    refine wpAny_pyIter_tuple (show s1.heap.IsTuple a its.toArray from tp) ⟨s1.heap.objs.size, [s1.heap.objs.size], _, _, H1, rfl, I1.kept (t' := s1.toks) fun b o e => Heap.get?_push_of_some _ e, turn_tuple a _, ⟨_, Heap.get?_push_size _ rfl, rfl, rfl⟩, fun b hb => ?_, q⟩
    rw [free b hb]
    exact I1.fpOk (Nat.le_refl _) (I1.hok.fresh (Nat.le_refl _))
theorem any_of {K : PySem.W.Frag} {H0 H : Hp} {a : Addr} {xs : List V} {R : It → Hp → Prop} (h : SqL K H0 a xs ∨ SqT K H0 a xs) (s : Same H0 H)
    (go : ∀ (J : It) (G : Hp → Prop), (∀ H', Same H0 H' → G H') → Walk J xs.length G (YAt xs) → R J H) : SeqGo K H a xs R := by
  rcases h with h | h
  · exact .inl ⟨s.seq h, go _ _ (fun H' s => s.seq h) walk_list⟩
  · exact .inr ⟨SqT.ext h s, go _ _ (fun H' s => SqT.ext h s) walk_tup⟩
theorem enum_of {K : PySem.W.Frag} {H0 H : Hp} {a : Addr} {xs : List V} {R : It → Hp → Prop} (h : SqL K H0 a xs ∨ SqT K H0 a xs) (s : Same H0 H)
    (go : ∀ (J : It) (G : Hp → Prop), (∀ H', Same H0 H' → G H') → Walk J xs.length G (YPair (fun i => some (.int (i : Nat))) (fun i => xs[i]?)) → R J H) : EnumGo K H a xs R := by
  rcases h with h | h
  · exact .inl ⟨s.seq h, go _ _ (fun H' s => s.seq h) walk_enum⟩
  · exact .inr ⟨SqT.ext h s, go _ _ (fun H' s => SqT.ext h s) walk_et⟩
/-- enumerate of a list or a tuple -/
def iEnumA (K : PySem.W.Frag) (ta : TA) : TI := fun σ H R => ta σ H fun vs H1 => ∃ (a : Addr) (xs : List V), vs = [.ref a] ∧ EnumGo K H1 a xs R
theorem pi_enumA {e : Expr} {ta : TA} {p pos tpos : Pos} {elts : List Expr} {kk : Nat} (hg : Gl X "enumerate") (hm : X.mg "enumerate" = none) (ha : PA X [e] ta) (hs : starEach [e] X.env = [(false, eval e X.env)] := by rfl) :
    PI X (.Tuple elts kk tpos) (.Call (.Name "enumerate" p) [e] [] pos) (iEnumA X.K ta) := by
  refine ⟨fun pins s σ H R I h => ?_⟩
  refine Call_ (ld_blt I hg hm boot_enumerate (PyProof.Rows.callWith_type1 (thn (ha.run pos pins s σ H _ I h) fun us s1 ⟨vs, H1, I1, r1, a, xs, ex, q⟩ => ?_) hs rfl))
  subst ex
  cases r1 with
  | cons r rr =>
    cases rr
    cases r
    have old : ∀ b ∈ [s1.heap.objs.size + 1, s1.heap.objs.size], s1.heap.objs.size ≤ b := fun b hb => by
      rcases List.mem_cons.mp hb with z | z
      · rw [z]; exact Nat.le_add_right _ _
      · rw [List.mem_singleton.mp z]; exact Nat.le_refl _
    rcases q with ⟨hq, q⟩ | ⟨hq, q⟩
    · obtain ⟨its, rv, lp, hz⟩ := I1.list hq
      refine call_enumerate_list lp.isList fun h' he hit hsz hk => wpAny_pyIter_enum he ?_
      exact ⟨s1.heap.objs.size + 1, [s1.heap.objs.size + 1, s1.heap.objs.size], _, _, H1, rfl, I1.kept (t' := s1.toks) hk, turn_enum a (s1.heap.objs.size + 1) s1.heap.objs.size, ⟨⟨.none, he⟩, hit, Nat.succ_ne_self _⟩, fun b hb => I1.fpOk (old b hb) (I1.hok.fresh (old b hb)), q⟩
    · obtain ⟨its, rv, tp, hz⟩ := I1.tuple hq
      have al : a < s1.heap.objs.size := by
        obtain ⟨o, ho, _⟩ := tp
        exact Heap.lt_size ho
      refine call_enum_tuple tp fun h' he hit hk => wpAny_pyIter_enum he ?_
      exact ⟨s1.heap.objs.size + 1, [s1.heap.objs.size + 1, s1.heap.objs.size], _, _, H1, rfl, I1.kept (t' := s1.toks) hk, turn_et a (s1.heap.objs.size + 1) s1.heap.objs.size (Nat.ne_of_lt al) (Nat.ne_of_gt (Nat.lt_succ_of_lt al)), ⟨⟨.none, he⟩, hit, Nat.succ_ne_self _⟩, fun b hb => I1.fpOk (old b hb) (I1.hok.fresh (old b hb)), q⟩
end
end Fm

/-! ## FmEq -/
set_option Elab.async false
set_option maxRecDepth 100000
set_option maxHeartbeats 4000000
/-! == by a class's own __eq__, beside anything; != of two of its objects. -/
namespace Fm
open PySem L2 PySem.Spec PyProof.Rows
section
variable {X : Cx} {k : Nat} {f C : Addr} {fd : FuncData} {ps : List Str} {sp : Sp}
/-- a call of the class's __eq__ answers as it promises -/
theorem run_eq {pins : List (Addr × Obj)} {σ : L2.St} {H : Hp} {s : Shared} {A : Around} {x y : V} {a : Addr} {v : Value} {R : Bool → Hp → Prop} (F : FnOk X.prog X.w X.K X.mg X.base CX0 k f fd ps sp) (hb : Binds X.K fd ps []) (hr : Room k A) (hf : A.frames = X.A.frames)
    (I : Inv X pins σ H s) (ex : x = .ref a) (ry : RelV y v) (h : sp [x, y] H (fun z H' => ∃ b, z = .bl b ∧ R b H') E0) :
    wpAny (model X.prog X.w) A (call (.ref f) [.ref a, v]) (fun r s' => ∃ b H', r = .bool b ∧ Inv X pins σ H' s' ∧ R b H') X.xe s := by
  subst ex
  have e := I.env0
  have e0 : Env0 X.prog X.w X.K X.mg X.base A X.stack s H := ⟨by rw [hf]; exact e.frames, e.mod, e.bs, e.bsz, e.funs, e.frf, e.hok, e.bare⟩
  have r2 : Vals [V.ref a, y] [Value.ref a, v] := .cons rfl (.cons ry .nil)
  have hl := F.len _ _ _ _ h
  have bt := hb s [.ref a, v] I.kIn (by simpa using hl)
  refine wpAny_call (codeAny_mono (F.run A X.stack s H ⟨[.ref a, v], []⟩ [.ref a, v] [.ref a, y] _ E0 hr e0 (by simpa using bt) r2 h) fun r s' hq => ?_)
  cases r with
  | error er => exact absurd hq (by intro z; exact z)
  | ok fl =>
    cases fl with
    | next => exact False.elim hq
    | brk => exact False.elim hq
    | cont => exact False.elim hq
    | ret u =>
      obtain ⟨z, H', I', rz, b, ez, q⟩ := I.after hq
      subst ez
      cases rz
      exact ⟨b, H', rfl, I', q⟩
/-- x == y, x of the class at C -/
def rEqI (K : PySem.W.Frag) (C : Addr) (sp : Sp) : R2 := fun x y H Q => ∃ (a dx : Addr) (fs : List (Str × V)) (t : Value), x = .ref a ∧ H a = some (.ins C dx fs) ∧ TyX K H y t ∧ PySem.W.notFirst K C t = true ∧ sp [x, y] H (fun z H' => ∃ b, z = .bl b ∧ Q (.bl b) H') E0
theorem op_eqI' (F : FnOk X.prog X.w X.K X.mg X.base CX0 k f fd ps sp) (hs : PySem.W.findIn X.K (.ref C) "__eq__" = some (some (.ref f))) (hf : PySem.W.isFn X.K (.ref f) = true) (hb : Binds X.K fd ps []) (hr : Room k X.A) :
    OpR X (compareOp .Eq) (rEqI X.K C sp) := by
  intro pins s σ H x y v u Q I rx ry h
  obtain ⟨a, dx, fs, t, ex, ha, ty, hn, hsp⟩ := h
  have ex' := ex
  subst ex
  cases rx
  obtain ⟨mA, J, _⟩ := ins_get I.hok ha
  obtain ⟨od, J, _⟩ := J.look
  obtain ⟨m, hF⟩ := I.fr
  obtain ⟨Pz, Z, pz, _⟩ := kit_of I ry ty
  show wpAny (model X.prog X.w) X.A (richCompare .Eq (.ref a) u) (EP X pins σ Q) X.xe s
  refine PySem.W.cmp_K (op := .Eq) (tb := t) hr.units0 hF I.ok.mod.kin J (Z.ty _ _ I.kIn pz) hn hs hf ?_
  refine wpAny_mono (run_eq (R := fun b H' => Q (.bl b) H') F hb hr rfl I ex' ry hsp) (fun r s' z => ?_) fun _ _ z => z
  obtain ⟨b, H', er, I', q⟩ := z
  subst er
  exact ⟨.bl b, H', I', rfl, q⟩
theorem if_builtin {M : Model} {A : Around} {E : Value → Shared → Prop} {s : Shared} {K : PySem.W.Frag} {x : Addr} {ox : Obj} {od : Option Obj} {name : Str} {T id : String} {args : List Value} {Q : Option Value → Shared → Prop}
    (X : K.In s.heap) (I : PySem.W.InstAt s.heap x ox C od) (hs : PySem.W.findIn K (.ref C) name = some (some (.builtin id))) (sl : Slot T name id) (h : wpAny M A (call (.builtin id) (.ref x :: args)) (fun v => Q (some v)) E s) :
    wpAny M A (callSpecialIfBound? (.ref x) name args) Q E s := by
  simp only [callSpecialIfBound?, bindSpecialIfBound?]
  refine wpAny_holding (wpAny_bind (wpAny_bind (wpAny_bind (I.type.here ((PySem.W.looks_findIn X hs).here ?_)))))
  refine wpAny_bind (wpAny_askSetting (wpAny_ite ?_))
  have fin : wpAny M A (call (.builtin id) ([.ref x] ++ args) >>= fun v => pure (some v)) Q E s := wpAny_bind (wpAny_mono h (fun v s' z => wpAny_pure z) fun _ _ z => z)
  rw [sl.bind (.ref x)]
  split
  · exact wpAny_bind (wpAny_pure (wpAny_pure (by exact fin)))
  · exact wpAny_tryCatch (wpAny_bind (wpAny_pure (wpAny_pure (by exact fin))))
/-- x != y, both of the class at C, which has no __ne__ of its own -/
def rNeI (C : Addr) (sp : Sp) : R2 := fun x y H Q => ∃ (a b dx dy : Addr) (fs gs : List (Str × V)), x = .ref a ∧ y = .ref b ∧ H a = some (.ins C dx fs) ∧ H b = some (.ins C dy gs) ∧ sp [x, y] H (fun z H' => ∃ c, z = .bl c ∧ Q (.bl (!c)) H') E0
theorem op_neI' (F : FnOk X.prog X.w X.K X.mg X.base CX0 k f fd ps sp) (hs : PySem.W.findIn X.K (.ref C) "__eq__" = some (some (.ref f))) (hf : PySem.W.isFn X.K (.ref f) = true) (hb : Binds X.K fd ps []) (hr : Room (k + 1) X.A)
    (hn : PySem.W.findIn X.K (.ref C) "__ne__" = some (some (.builtin "object.__ne__"))) (hm : PySem.W.mroIn X.K C (.type "object") = some true) :
    OpR X (compareOp .NotEq) (rNeI C sp) := by
  intro pins s σ H x y v u Q I rx ry h
  obtain ⟨a, b, dx, dy, fs, gs, ex, ey, ha, hb', hsp⟩ := h
  have ex' := ex
  have ey' := ey
  subst ex ey
  cases rx
  cases ry
  obtain ⟨mA, J, _⟩ := ins_get I.hok ha
  obtain ⟨od, J, _⟩ := J.look
  obtain ⟨mB, J2, _⟩ := ins_get I.hok hb'
  obtain ⟨od2, J2, _⟩ := J2.look
  have hr1 : Room k X.A.in1 := hr.in1
  have run := run_eq (A := X.A.in1) (R := fun c H' => Q (.bl (!c)) H') F hb hr1 rfl I ex' (y := .ref b) (v := .ref b) rfl hsp
  have units : X.A.in1.units < cLine := hr1.units0
  have body : wpAny (model X.prog X.w) X.A.in1 (Builtin.«object.__ne__» ⟨[.ref a, .ref b], []⟩) (fun fin s' => ∃ r, fin = .done (.ret r) ∧ EP X pins σ Q r s' ∧ r ≠ .notImplemented) X.xe s := by
    unfold Builtin.«object.__ne__»
    refine wpAny_bind (wpAny_of_eq (a := ((Value.ref a : Value), [Value.ref b])) (by first | rfl | (simp only [Builtin.slotArgs]; rfl)) ?_)
    refine wpAny_bind (wpAny_cRoomFor units ?_)
    refine wpAny_bind (PySem.W.ifBound_K I.kIn J hs hf (wpAny_mono run (fun r s' z => ?_) fun _ _ z => z))
    obtain ⟨c, H', er, I', q⟩ := z
    subst er
    refine wpAny_bind (wpAny_truthy_bool ?_)
    exact wpAny_pure ⟨_, rfl, ⟨.bl (!c), H', I', rfl, q⟩, fun z => nomatch z⟩
  have isub : PySem.W.Looks (model X.prog X.w) s.heap (isInstance (.ref a) (.type "object")) true := J.type.andThen (PySem.W.looks_mroIn I.kIn hm)
  have SF := PySem.F.cmp_object
  show wpAny (model X.prog X.w) X.A (richCompare .NotEq (.ref a) (.ref b)) (EP X pins σ Q) X.xe s
  unfold richCompare
  simp only [oneThing_ref]
  refine wpAny_holding (wpAny_bind (wpAny_cRoomFor hr.units0 ?_))
  rw [cmpInfo_NotEq]
  dsimp only
  refine wpAny_bind (J.type.here (wpAny_bind (J2.type.here ?_)))
  rw [show (Value.ref C != Value.ref C) = false from by simp]
  simp only [Bool.false_eq_true, if_false]
  refine wpAny_bind (wpAny_pure ?_)
  simp only [Bool.false_eq_true, if_false]
  unfold tryCompare
  refine wpAny_bind (wpAny_bind (if_builtin I.kIn J hn SF.ne (wpAny_call (codeAny_call_builtin SF.ne.plain PySem.F.cmpEntry_ne ?_))))
  refine PySem.W.check_slot PySem.F.cmpKind_ne PySem.F.cmpSplit_ne isub (PySem.F.cmpArgs_ne _ _) ?_
  refine wpAny_mono body (fun fin s' z => ?_) fun _ _ z => z
  obtain ⟨r, er, q, hr'⟩ := z
  subst er
  cases r
  case notImplemented => exact absurd rfl hr'
  all_goals exact wpAny_pure (wpAny_pure q)
/-- the class at C compares by a def of its own -/
structure Deq (P : Program) (w : World) (K : PySem.W.Frag) (mg : Str → Option Value) (base : Heap) (C : Addr) (k : Nat) (ps : List Str) (sp : Sp) : Prop where
  ex : ∃ (f : Addr) (fd : FuncData), FnOk P w K mg base CX0 k f fd ps sp ∧ PySem.W.findIn K (.ref C) "__eq__" = some (some (.ref f)) ∧ PySem.W.isFn K (.ref f) = true ∧ Binds K fd ps []
theorem op_eqO (D : Deq X.prog X.w X.K X.mg X.base C k ps sp) (hr : Room k X.A) : OpR X (compareOp .Eq) (rEqI X.K C sp) := by
  obtain ⟨f, fd, F, hs, hf, hb⟩ := D.ex
  exact op_eqI' F hs hf hb hr
theorem op_neO (D : Deq X.prog X.w X.K X.mg X.base C k ps sp) (hr : Room (k + 1) X.A) (hn : PySem.W.findIn X.K (.ref C) "__ne__" = some (some (.builtin "object.__ne__"))) (hm : PySem.W.mroIn X.K C (.type "object") = some true) :
    OpR X (compareOp .NotEq) (rNeI C sp) := by
  obtain ⟨f, fd, F, hs, hf, hb⟩ := D.ex
  exact op_neI' F hs hf hb hr hn hm
end
end Fm

/-! ## FmData -/
set_option Elab.async false
set_option maxRecDepth 100000
set_option maxHeartbeats 4000000
/-! Data as trees over heaps; names; what as_tuples makes of data. -/
namespace Fm
open PySem L2
section
variable {K : PySem.W.Frag} {H H' H1 H2 N M : Hp}
theorem same_sqT {a : Addr} {xs : List V} (e : Same H H') (h : SqT K H a xs) : SqT K H' a xs := by
  rcases h with (h | ⟨o, h⟩) | h
  · exact .inl (.inl (e _ _ h))
  · exact .inl (.inr ⟨o, e _ _ h⟩)
  · exact .inr h
mutual
theorem dp_mono (e : Same H H') : ∀ (d : PyData) (v : V), Dp K H v d → Dp K H' v d
  | .none, _, h => by cases h; exact .non
  | .bool b, _, h => by cases h; exact .bl b
  | .int i, _, h => by cases h; exact .int i
  | .str x, _, h => by cases h; exact .str x
  | .list ds, _, h => by
    cases h with
    | lst hs ha => exact .lst (e.seq hs) (dpA_mono e ds _ ha)
  | .tuple ds, _, h => by
    cases h with
    | tup hs ha => exact .tup (same_sqT e hs) (dpA_mono e ds _ ha)
  | .dict _, _, h => by cases h
theorem dpA_mono (e : Same H H') : ∀ (ds : List PyData) (vs : List V), DpAll K H vs ds → DpAll K H' vs ds
  | [], _, h => by cases h; exact .nil
  | d :: ds, _, h => by
    cases h with
    | cons h1 h2 => exact .cons (dp_mono e d _ h1) (dpA_mono e ds _ h2)
end
theorem dpA_len : ∀ {ds : List PyData} {vs : List V}, DpAll K H vs ds → vs.length = ds.length
  | [], _, h => by cases h; rfl
  | d :: ds, _, h => by
    cases h with
    | cons h1 h2 => rw [List.length_cons, List.length_cons, dpA_len h2]
theorem dpA_at : ∀ {ds : List PyData} {vs : List V} {i : Nat} {v : V}, DpAll K H vs ds → vs[i]? = some v → ∃ d, ds[i]? = some d ∧ Dp K H v d
  | [], _, i, v, h, e => by cases h; simp at e
  | d :: ds, _, 0, v, h, e => by
    cases h with
    | cons h1 h2 =>
      simp at e
      subst e
      exact ⟨d, rfl, h1⟩
  | d :: ds, _, i + 1, v, h, e => by
    cases h with
    | cons h1 h2 =>
      simp at e
      obtain ⟨z, q1, q2⟩ := dpA_at h2 e
      exact ⟨z, by simpa using q1, q2⟩
theorem dpA_snoc : ∀ {ds : List PyData} {vs : List V} {d : PyData} {v : V}, DpAll K H vs ds → Dp K H v d → DpAll K H (vs ++ [v]) (ds ++ [d])
  | [], _, d, v, h, q => by cases h; exact .cons q .nil
  | c :: ds, _, d, v, h, q => by
    cases h with
    | cons h1 h2 => exact .cons h1 (dpA_snoc h2 q)
theorem dpA_strs : ∀ (xs : List Str), DpAll K H (xs.map V.str) (xs.map PyData.str)
  | [] => .nil
  | x :: xs => .cons (.str x) (dpA_strs xs)
theorem dpA_strs_inv : ∀ {xs : List Str} {vs : List V}, DpAll K H vs (xs.map PyData.str) → vs = xs.map V.str
  | [], _, h => by cases h; rfl
  | x :: xs, _, h => by
    cases h with
    | cons h1 h2 =>
      cases h1
      rw [dpA_strs_inv h2]
      rfl
/-! ### what is new -/
/-- N holds things that are new behind H, as they stand in H' -/
def Fresh (H H' N : Hp) : Prop := ∀ a o, N a = some o → H a = none ∧ H' a = some o
def uni (N M : Hp) : Hp := fun a => match N a with
  | some o => some o
  | none => M a
def nil0 : Hp := fun _ => none
theorem fresh_nil : Fresh H H' nil0 := fun _ _ h => by cases h
theorem same_uni : Same N (uni N M) := fun a o h => by
  unfold uni
  rw [h]
theorem uni_or {a : Addr} {o : HO} (h : uni N M a = some o) : N a = some o ∨ (N a = none ∧ M a = some o) := by
  unfold uni at h
  cases q : N a with
  | some u =>
    rw [q] at h
    exact .inl h
  | none =>
    rw [q] at h
    exact .inr ⟨rfl, h⟩
theorem fresh_uni (f : Fresh H H1 N) (g : Fresh H1 H2 M) (s : Same H H1) (t : Same H1 H2) : Fresh H H2 (uni N M) := fun a o h => by
  rcases uni_or h with h | ⟨_, h⟩
  · exact ⟨(f a o h).1, t _ _ (f a o h).2⟩
  · exact ⟨s.free (g a o h).1, (g a o h).2⟩
theorem same_uni2 (f : Fresh H H1 N) (g : Fresh H1 H2 M) : Same M (uni N M) := fun a o h => by
  unfold uni
  cases q : N a with
  | none => exact h
  | some u =>
    have z := (f a u q).2
    rw [(g a o h).1] at z
    cases z
theorem fresh_back (s : Same H H1) (f : Fresh H1 H2 N) : Fresh H H2 N := fun a o h => ⟨s.free (f a o h).1, (f a o h).2⟩
theorem fresh_new (f : Fresh H H1 N) (s : Same H H1) {p : Addr} (o : HO) (hp : H1 p = none) : Fresh H (upd H1 p o) (upd N p o) := fun a u h => by
  by_cases e : a = p
  · subst e
    rw [upd_same] at h ⊢
    exact ⟨s.free hp, h⟩
  · rw [upd_ne e] at h ⊢
    exact f a u h
theorem same_freshNew (f : Fresh H H1 N) {p : Addr} (o : HO) (hp : H1 p = none) : Same N (upd N p o) := fun a u h => by
  have e : a ≠ p := fun z => by
    have q := (f a u h).2
    rw [z, hp] at q
    cases q
  rw [upd_ne e]
  exact h
/-- what is spoken of, and what is new, as one part of the heap -/
theorem grow_fresh {F : Hp} (s : Same F H) (t : Same H H') (f : Fresh H H' N) : Grow F H (uni F N) H' := by
  refine ⟨same_uni, fun a o h => ?_, fun a o h1 h2 => ⟨?_, t _ _ h2⟩⟩
  · rcases uni_or h with h | ⟨_, h⟩
    · exact t _ _ (s _ _ h)
    · exact (f a o h).2
  · unfold uni
    rw [h1]
    cases q : N a with
    | none => rfl
    | some u =>
      have z := (f a u q).1
      rw [h2] at z
      cases z
theorem same_grow {F : Hp} (s : Same F H) (f : Fresh H H' N) : Same N (uni F N) := fun a o h => by
  unfold uni
  cases q : F a with
  | none => exact h
  | some u =>
    have z := s a u q
    rw [(f a o h).1] at z
    cases z
theorem bag_same {F : Hp} {b : Addr} (B : Bag F H b) (t : Same H H') : Bag F H' b := by
  obtain ⟨s, fb, cl, ns, p, g, z, c, h, e1, e2, e3, e4, r⟩ := B
  exact ⟨s.trans t, fb, cl, ns, p, g, z, c, h, e1, e2, t _ _ e3, t _ _ e4, r⟩
end
/-! ### rows as tuples -/
mutual
def tupd : PyData → PyData
  | .list xs => .tuple (tupdL xs)
  | .tuple xs => .tuple (tupdL xs)
  | .none => .none
  | .bool b => .bool b
  | .int i => .int i
  | .str s => .str s
  | .dict kvs => .dict kvs
def tupdL : List PyData → List PyData
  | [] => []
  | d :: ds => tupd d :: tupdL ds
end
theorem tupdL_map : ∀ ds : List PyData, tupdL ds = ds.map tupd
  | [] => rfl
  | d :: ds => by
    show tupd d :: tupdL ds = tupd d :: ds.map tupd
    rw [tupdL_map ds]
/-- data of at most so many rows one in the other, none of them long -/
inductive Dn : Nat → PyData → Prop
  | none (n : Nat) : Dn (n + 1) .none
  | bool (n : Nat) (b : Bool) : Dn (n + 1) (.bool b)
  | int (n : Nat) (i : Int) : Dn (n + 1) (.int i)
  | str (n : Nat) (s : Str) : Dn (n + 1) (.str s)
  | list (n : Nat) (ds : List PyData) : (∀ d ∈ ds, Dn n d) → ds.length ≤ 100000 → Dn (n + 1) (.list ds)
  | tuple (n : Nat) (ds : List PyData) : (∀ d ∈ ds, Dn n d) → ds.length ≤ 100000 → Dn (n + 1) (.tuple ds)
theorem dn_strs {n : Nat} {xs : List Str} (h : xs.length ≤ 100000) : (∀ d ∈ xs.map PyData.str, Dn (n + 1) d) ∧ (xs.map PyData.str).length ≤ 100000 := by
  refine ⟨fun d m => ?_, by rw [List.length_map]; exact h⟩
  obtain ⟨x, _, rfl⟩ := List.mem_map.mp m
  exact .str n x
theorem bl_map {α : Type} (f : α → Bool) (xs : List α) : (xs.map fun c => V.bl (f c)) = (xs.map f).map V.bl := by
  rw [List.map_map]
  rfl
theorem flat_strs (xs : List Str) : (xs.map V.str).all flatV = true := by
  rw [List.all_map]
  exact List.all_eq_true.mpr fun _ _ => rfl
theorem inV_str (n : Str) (xs : List Str) : inV (.str n) (xs.map V.str) = decide (n ∈ xs) := by
  unfold inV
  rw [List.any_map]
  by_cases h : n ∈ xs
  · rw [decide_eq_true h]
    exact List.any_eq_true.mpr ⟨n, h, beq_self_eq_true n⟩
  · rw [decide_eq_false h]
    refine List.any_eq_false.mpr fun y m => ?_
    show ¬ (y == n) = true
    intro e
    rw [eq_of_beq e] at m
    exact h m
theorem nodup_take {α : Type} {l : List α} (hN : l.Nodup) {i : Nat} {x : α} (h : l[i]? = some x) : x ∉ l.take i := fun m => by
  obtain ⟨j, hj, e⟩ := List.getElem_of_mem m
  have q : l[j]? = some x := by
    rw [List.length_take] at hj
    rw [List.getElem_take] at e
    rw [← e]
    exact List.getElem?_eq_getElem _
  have z := nd_ix hN q h
  rw [List.length_take] at hj
  omega
/-! ### rules whose K is told, for the inside of a comprehension -/
section
variable {X : Cx} {K : PySem.W.Frag}
theorem ixK_seq (h : X.K = K := by rfl) : IxR X (rIx K) := by subst h; exact ix_seq
theorem ixK_list (h : X.K = K := by rfl) : IxR X (rIxL K) := by subst h; exact ix_list
theorem ixK_tup (h : X.K = K := by rfl) : IxR X (rIxT K) := by subst h; exact ix_tup
theorem cK_len_seq (h : X.K = K := by rfl) : CallR X (.builtin "len") (fun xs H Q => ∃ p ys, xs = [.ref p] ∧ (SqL K H p ys ∨ SqT K H p ys) ∧ Q (.int ys.length) H) := by subst h; exact call_len_seq
theorem cK_isi (h : X.K = K := by rfl) : CallR X (.builtin "isinstance") (rIsi K) := by subst h; exact call_isi
theorem cK_isiT (h : X.K = K := by rfl) : CallR X (.builtin "isinstance") (rIsiT K) := by subst h; exact call_isiT
theorem cK_list_of (h : X.K = K := by rfl) : CallR X (.type "list") (fun xs H Q => ∃ p ys, xs = [.ref p] ∧ (SqL K H p ys ∨ SqT K H p ys) ∧ ∀ l, H l = none → Q (.ref l) (upd H l (.lst ys))) := by subst h; exact call_list_of
theorem cK_tuple_of (h : X.K = K := by rfl) : CallR X (.type "tuple") (fun xs H Q => ∃ p ys, xs = [.ref p] ∧ ((SqL K H p ys ∧ ∀ l, H l = none → Q (.ref l) (upd H l (.tup ys))) ∨ (SqT K H p ys ∧ Q (.ref p) H))) := by subst h; exact call_tuple_of
end
/-! ### names -/
def isNm (s : Str) : Bool := decide (1 ≤ s.length) && decide (s.length ≤ 8) && s.cps.toList.all fun c => decide (97 ≤ c) && decide (c ≤ 122)
def letters : Str := "abcdefghijklmnopqrstuvwxyz"
theorem letters_list : letters.cps.toList = List.range' 97 26 := by decide +kernel
theorem letters_mem (c : Nat) : decide (c ∈ letters.cps.toList) = (decide (97 ≤ c) && decide (c ≤ 122)) := by
  rw [letters_list]
  by_cases h : c ∈ List.range' 97 26
  · rw [decide_eq_true h]
    have q := List.mem_range'_1.mp h
    simp
    omega
  · rw [decide_eq_false h]
    have q : ¬ (97 ≤ c ∧ c < 97 + 26) := fun z => h (List.mem_range'_1.mpr z)
    symm
    rw [← Bool.decide_and]
    exact decide_eq_false (by omega)
end Fm

/-! ## FmTree2 -/
set_option Elab.async false
set_option maxRecDepth 100000
set_option maxHeartbeats 4000000
/-! Any tree of lists and tuples, with the two small dicts that a law's odd things have. -/
namespace Fm
open PySem L2
def dictD (b : Bool) : PyData := .dict (if b = true then [(.str "a", .list [.int 1])] else [])
/-- the two dicts -/
def Dl (H : Hp) (a : Addr) (b : Bool) : Prop := if b = true then ∃ l, H a = some (.dK [(Sum.inr "a", .ref l)]) ∧ H l = some (.lst [.int 1]) else H a = some (.dK [])
/-- a key as data -/
def kD : Key → PyData
  | .inl i => .int i
  | .inr s => .str s
theorem kD_inj {a b : Key} (h : kD a = kD b) : a = b := by
  cases a <;> cases b <;> first | (cases h; rfl) | cases h
mutual
/-- at v stands the tree d, its rows as they are -/
inductive Tp (H : Hp) : V → PyData → Prop
  | non : Tp H .non .none
  | bl (b : Bool) : Tp H (.bl b) (.bool b)
  | int (i : Int) : Tp H (.int i) (.int i)
  | str (x : Str) : Tp H (.str x) (.str x)
  | lst {a : Addr} {xs : List V} {ds : List PyData} : H a = some (.lst xs) → TpAll H xs ds → Tp H (.ref a) (.list ds)
  | tup {a : Addr} {xs : List V} {ds : List PyData} : H a = some (.tup xs) → TpAll H xs ds → Tp H (.ref a) (.tuple ds)
  | dct {a : Addr} {kvs : List (Key × V)} {es : List (PyData × PyData)} : H a = some (.dK kvs) → TpKV H kvs es → (kvs.map (·.1)).Nodup → Tp H (.ref a) (.dict es)
inductive TpAll (H : Hp) : List V → List PyData → Prop
  | nil : TpAll H [] []
  | cons {v : V} {vs : List V} {d : PyData} {ds : List PyData} : Tp H v d → TpAll H vs ds → TpAll H (v :: vs) (d :: ds)
inductive TpKV (H : Hp) : List (Key × V) → List (PyData × PyData) → Prop
  | nil : TpKV H [] []
  | cons {k : Key} {v : V} {kvs : List (Key × V)} {d : PyData} {es : List (PyData × PyData)} : Tp H v d → TpKV H kvs es → TpKV H ((k, v) :: kvs) ((kD k, d) :: es)
end
section
variable {K : PySem.W.Frag} {H H' : Hp}
mutual
theorem Tp.same (e : Same H H') : ∀ {d : PyData} {v : V}, Tp H v d → Tp H' v d
  | .none, _, h => by cases h; exact .non
  | .bool b, _, h => by cases h; exact .bl b
  | .int i, _, h => by cases h; exact .int i
  | .str x, _, h => by cases h; exact .str x
  | .list ds, _, h => by
    cases h with
    | lst hs ha => exact .lst (e _ _ hs) (TpAll.same e ha)
  | .tuple ds, _, h => by
    cases h with
    | tup hs ha => exact .tup (e _ _ hs) (TpAll.same e ha)
  | .dict es, _, h => by
    cases h with
    | dct hb ha hn => exact .dct (e _ _ hb) (TpKV.same e ha) hn
theorem TpAll.same (e : Same H H') : ∀ {ds : List PyData} {vs : List V}, TpAll H vs ds → TpAll H' vs ds
  | [], _, h => by cases h; exact .nil
  | d :: ds, _, h => by
    cases h with
    | cons h1 h2 => exact .cons (Tp.same e h1) (TpAll.same e h2)
theorem TpKV.same (e : Same H H') : ∀ {es : List (PyData × PyData)} {kvs : List (Key × V)}, TpKV H kvs es → TpKV H' kvs es
  | [], _, h => by cases h; exact .nil
  | (k, d) :: es, _, h => by
    cases h with
    | cons h1 h2 => exact .cons (Tp.same e h1) (TpKV.same e h2)
end
theorem TpKV.len : ∀ {es : List (PyData × PyData)} {kvs : List (Key × V)}, TpKV H kvs es → kvs.length = es.length
  | [], _, h => by cases h; rfl
  | _ :: _, _, h => by
    cases h with
    | cons h1 h2 => rw [List.length_cons, List.length_cons, h2.len]
theorem TpKV.at : ∀ {es : List (PyData × PyData)} {kvs : List (Key × V)} {i : Nat} {k : Key} {v : V}, TpKV H kvs es → kvs[i]? = some (k, v) → ∃ d, es[i]? = some (kD k, d) ∧ Tp H v d
  | [], _, i, _, v, h, e => by cases h; simp at e
  | _ :: es, _, 0, _, v, h, e => by
    cases h with
    | cons h1 h2 =>
      cases e
      exact ⟨_, rfl, h1⟩
  | _ :: es, _, i + 1, _, v, h, e => by
    cases h with
    | cons h1 h2 =>
      rw [List.getElem?_cons_succ] at e
      obtain ⟨d, q1, q2⟩ := h2.at e
      exact ⟨d, by rw [List.getElem?_cons_succ]; exact q1, q2⟩
theorem TpKV.both {G : Hp} {k : Key} : ∀ {es : List (PyData × PyData)} {kvs lvs : List (Key × V)}, TpKV H kvs es → TpKV G lvs es → k ∈ kvs.map (·.1) → ∃ v u d, valV kvs k = some v ∧ valV lvs k = some u ∧ (kD k, d) ∈ es ∧ Tp H v d ∧ Tp G u d
  | [], _, _, h, _, m => by cases h; cases m
  | (c, d) :: es, _, _, h, g, m => by
    generalize ek : (c, d) = kd at h g
    cases h with
    | @cons k1 v1 kvs1 d1 es1 h1 h2 =>
      cases ek
      generalize ek2 : kD k1 = kk at g
      cases g with
      | @cons k2 v2 lvs1 d2 es2 g1 g2 =>
        cases kD_inj ek2
        unfold valV
        by_cases q : k1 = k
        · rw [List.find?_cons_of_pos (by simp [q]), List.find?_cons_of_pos (by simp [q])]
          exact ⟨v1, v2, d, rfl, rfl, by rw [q]; exact List.mem_cons_self, h1, g1⟩
        · rw [List.find?_cons_of_neg (by simp [q]), List.find?_cons_of_neg (by simp [q])]
          have m2 : k ∈ kvs1.map (·.1) := by
            rw [List.map_cons] at m
            rcases List.mem_cons.mp m with m | m
            · exact absurd m.symm q
            · exact m
          obtain ⟨v, u, e, z1, z2, z3, z4, z5⟩ := TpKV.both h2 g2 m2
          exact ⟨v, u, e, z1, z2, List.mem_cons_of_mem _ z3, z4, z5⟩
theorem valV_at : ∀ {kvs : List (Key × V)} {i : Nat} {k : Key} {v : V}, (kvs.map (·.1)).Nodup → kvs[i]? = some (k, v) → valV kvs k = some v
  | [], i, _, _, _, e => by simp at e
  | (k1, v1) :: kvs, 0, k, v, _, e => by
    cases e
    unfold valV
    rw [List.find?_cons_of_pos (by simp)]
    rfl
  | (k1, v1) :: kvs, i + 1, k, v, n, e => by
    rw [List.getElem?_cons_succ] at e
    rw [List.map_cons, List.nodup_cons] at n
    have ne : ¬ k1 = k := fun q => n.1 (by rw [q]; exact List.mem_map.mpr ⟨(k, v), List.mem_of_getElem? e, rfl⟩)
    unfold valV
    rw [List.find?_cons_of_neg (by simp [ne])]
    exact valV_at n.2 e
theorem TpKV.snoc : ∀ {es : List (PyData × PyData)} {kvs : List (Key × V)} {k : Key} {v : V} {d : PyData}, TpKV H kvs es → Tp H v d → TpKV H (kvs ++ [(k, v)]) (es ++ [(kD k, d)])
  | [], _, _, _, _, h, g => by cases h; exact .cons g .nil
  | _ :: _, _, _, _, _, h, g => by
    cases h with
    | cons h1 h2 => exact .cons h1 (h2.snoc g)
theorem TpKV.take : ∀ {es : List (PyData × PyData)} {kvs : List (Key × V)} (n : Nat), TpKV H kvs es → TpKV H (kvs.take n) (es.take n)
  | [], _, n, h => by cases h; simp; exact .nil
  | _ :: _, _, 0, h => .nil
  | _ :: _, _, n + 1, h => by
    cases h with
    | cons h1 h2 => exact .cons h1 (h2.take n)
/-- two dicts with the same data have the same keys -/
theorem TpKV.keys {G : Hp} : ∀ {es : List (PyData × PyData)} {kvs lvs : List (Key × V)}, TpKV H kvs es → TpKV G lvs es → kvs.map (·.1) = lvs.map (·.1)
  | [], _, _, h, g => by cases h; cases g; rfl
  | (k, d) :: es, _, _, h, g => by
    generalize ek : (k, d) = kd at h g
    cases h with
    | @cons k1 v1 kvs1 d1 es1 h1 h2 =>
      cases ek
      generalize ek2 : kD k1 = kk at g
      cases g with
      | @cons k2 v2 lvs1 d2 es2 g1 g2 =>
        rw [List.map_cons, List.map_cons, h2.keys g2, kD_inj ek2]
theorem TpAll.len : ∀ {ds : List PyData} {vs : List V}, TpAll H vs ds → vs.length = ds.length
  | [], _, h => by cases h; rfl
  | d :: ds, _, h => by
    cases h with
    | cons h1 h2 => rw [List.length_cons, List.length_cons, h2.len]
theorem TpAll.at : ∀ {ds : List PyData} {vs : List V} {i : Nat} {v : V}, TpAll H vs ds → vs[i]? = some v → ∃ d, ds[i]? = some d ∧ Tp H v d
  | [], _, i, v, h, e => by cases h; simp at e
  | d :: ds, _, 0, v, h, e => by
    cases h with
    | cons h1 h2 =>
      simp at e
      subst e
      exact ⟨d, rfl, h1⟩
  | d :: ds, _, i + 1, v, h, e => by
    cases h with
    | cons h1 h2 =>
      simp at e
      obtain ⟨z, q1, q2⟩ := h2.at e
      exact ⟨z, by simpa using q1, q2⟩
theorem TpAll.to : ∀ {ds : List PyData} {vs : List V} {i : Nat} {d : PyData}, TpAll H vs ds → ds[i]? = some d → ∃ v, vs[i]? = some v ∧ Tp H v d
  | [], _, _, _, _, e => by simp at e
  | _ :: _, _, 0, _, h, e => by
    cases h with
    | cons h1 h2 =>
      cases e
      exact ⟨_, rfl, h1⟩
  | _ :: _, _, i + 1, _, h, e => by
    cases h with
    | cons h1 h2 =>
      rw [List.getElem?_cons_succ] at e
      obtain ⟨v, h3, h4⟩ := h2.to e
      exact ⟨v, by rw [List.getElem?_cons_succ]; exact h3, h4⟩
theorem TpAll.app : ∀ {ds es : List PyData} {vs us : List V}, TpAll H vs ds → TpAll H us es → TpAll H (vs ++ us) (ds ++ es)
  | [], es, _, us, h, g => by cases h; exact g
  | d :: ds, es, _, us, h, g => by
    cases h with
    | cons h1 h2 => exact .cons h1 (h2.app g)
theorem TpAll.take : ∀ {ds : List PyData} {vs : List V} (n : Nat), TpAll H vs ds → TpAll H (vs.take n) (ds.take n)
  | [], _, n, h => by cases h; simp; exact .nil
  | d :: ds, _, 0, h => .nil
  | d :: ds, _, n + 1, h => by
    cases h with
    | cons h1 h2 => exact .cons h1 (h2.take n)
theorem TpAll.drop : ∀ {ds : List PyData} {vs : List V} (n : Nat), TpAll H vs ds → TpAll H (vs.drop n) (ds.drop n)
  | [], _, n, h => by cases h; simp; exact .nil
  | d :: ds, _, 0, h => h
  | d :: ds, _, n + 1, h => by
    cases h with
    | cons h1 h2 => exact h2.drop n
theorem TpAll.rep {vs : List V} {ds : List PyData} (h : TpAll H vs ds) : ∀ c : Nat, TpAll H (List.replicate c vs).flatten (List.replicate c ds).flatten
  | 0 => .nil
  | c + 1 => by
    rw [List.replicate_succ, List.replicate_succ, List.flatten_cons, List.flatten_cons]
    exact h.app (h.rep c)
theorem TpAll.set : ∀ {ds : List PyData} {vs : List V} (i : Nat) {v : V} {d : PyData}, TpAll H vs ds → Tp H v d → TpAll H (vs.set i v) (ds.set i d)
  | [], _, i, v, d, h, _ => by cases h; exact .nil
  | _ :: _, _, 0, v, d, h, g => by
    cases h with
    | cons h1 h2 => exact .cons g h2
  | _ :: _, _, i + 1, v, d, h, g => by
    cases h with
    | cons h1 h2 => exact .cons h1 (h2.set i g)
theorem TpAll.strs : ∀ (xs : List Str), TpAll H (xs.map V.str) (xs.map PyData.str)
  | [] => .nil
  | x :: xs => .cons (.str x) (TpAll.strs xs)
theorem TpAll.ints : ∀ (xs : List Int), TpAll H (xs.map V.int) (xs.map PyData.int)
  | [] => .nil
  | x :: xs => .cons (.int x) (TpAll.ints xs)
/-! ### what a tree is: its type, its parts -/
def tyD : PyData → String
  | .none => "NoneType"
  | .bool _ => "bool"
  | .int _ => "int"
  | .str _ => "str"
  | .list _ => "list"
  | .tuple _ => "tuple"
  | .dict _ => "dict"
theorem Tp.ty {v : V} {d : PyData} (h : Tp H v d) : TyX K H v (.type (tyD d)) := by
  cases h with
  | non => exact .base .non
  | bl b => exact .base (.bl b)
  | int i => exact .base (.int i)
  | str s => exact .base (.str s)
  | lst h _ => exact .base (.lst h)
  | tup h _ => exact .base (.tup h)
  | dct h _ _ => exact .base (.dK h)
/-- isinstance(thing, T) by the type's name -/
def isD (n : String) (d : PyData) : Bool := (kitB (tyD d) n).getD false
theorem kit_d {d : PyData} {n : String} (hn : n ∈ ["str", "int", "bool", "list", "tuple", "dict"]) : kitB (tyD d) n = some (isD n d) := by
  unfold isD
  simp only [List.mem_cons, List.mem_nil_iff, or_false] at hn
  cases d <;> (rcases hn with rfl | rfl | rfl | rfl | rfl | rfl <;> (unfold tyD; rfl))
def isRowD : PyData → Bool
  | .list _ => true
  | .tuple _ => true
  | _ => false
theorem kitAny_row {d : PyData} : PySem.W.kitAny K (.type (tyD d)) [.type "list", .type "tuple"] = some (isRowD d) := by
  have go : ∀ n b1 b2, kitB n "list" = some b1 → kitB n "tuple" = some b2 → PySem.W.kitAny K (.type n) [.type "list", .type "tuple"] = some (b1 || b2) := fun n b1 b2 h1 h2 => by
    refine kitAny_cons (b := b1) (kit_ty h1) (fun z => ?_) fun z => by rw [z]; rfl
    rw [z, Bool.false_or]
    exact kitAny_cons (b := b2) (kit_ty h2) (fun y => by rw [y]; rfl) fun y => by rw [y]
  cases d with
  | none => exact go "NoneType" false false (by decide +kernel) (by decide +kernel)
  | bool _ => exact go "bool" false false (by decide +kernel) (by decide +kernel)
  | int _ => exact go "int" false false (by decide +kernel) (by decide +kernel)
  | str _ => exact go "str" false false (by decide +kernel) (by decide +kernel)
  | list _ => exact go "list" true false (by decide +kernel) (by decide +kernel)
  | tuple _ => exact go "tuple" false true (by decide +kernel) (by decide +kernel)
  | dict _ => exact go "dict" false false (by decide +kernel) (by decide +kernel)
/-- the parts of a row -/
def partsD : PyData → List PyData
  | .list ds => ds
  | .tuple ds => ds
  | _ => []
/-- a row's object -/
def Rw (H : Hp) (a : Addr) (xs : List V) : Prop := H a = some (.lst xs) ∨ H a = some (.tup xs)
theorem Rw.same {a : Addr} {xs : List V} (h : Rw H a xs) (s : Same H H') : Rw H' a xs := h.imp (s _ _) (s _ _)
theorem Tp.row {v : V} {d : PyData} (h : Tp H v d) (hr : isRowD d = true) : ∃ a xs, v = .ref a ∧ Rw H a xs ∧ TpAll H xs (partsD d) := by
  cases h with
  | lst h1 h2 => exact ⟨_, _, rfl, .inl h1, h2⟩
  | tup h1 h2 => exact ⟨_, _, rfl, .inr h1, h2⟩
  | dct _ _ _ => cases hr
  | _ => cases hr
theorem Tp.tuple {v : V} {ds : List PyData} (h : Tp H v (.tuple ds)) : ∃ a xs, v = .ref a ∧ H a = some (.tup xs) ∧ TpAll H xs ds := by
  cases h with
  | tup h1 h2 => exact ⟨_, _, rfl, h1, h2⟩
theorem Tp.list {v : V} {ds : List PyData} (h : Tp H v (.list ds)) : ∃ a xs, v = .ref a ∧ H a = some (.lst xs) ∧ TpAll H xs ds := by
  cases h with
  | lst h1 h2 => exact ⟨_, _, rfl, h1, h2⟩
theorem Tp.strI {v : V} {s : Str} (h : Tp H v (.str s)) : v = .str s := by cases h; rfl
theorem Tp.intI {v : V} {s : Int} (h : Tp H v (.int s)) : v = .int s := by cases h; rfl
theorem Tp.blI {v : V} {s : Bool} (h : Tp H v (.bool s)) : v = .bl s := by cases h; rfl
/-! ### a place of the heap that is left open -/
def cut (F : Hp) (r : Addr) : Hp := fun a => if a = r then none else F a
section
variable {F G M : Hp} {r : Addr} {o : HO}
theorem cut_at : cut F r r = none := if_pos rfl
theorem cut_ne {a : Addr} (n : a ≠ r) : cut F r a = F a := if_neg n
theorem cut_upd (h : F r = some o) : upd (cut F r) r o = F := funext fun a => by
  by_cases q : a = r
  · rw [q, upd_same, h]
  · rw [upd_ne q]
    exact if_neg q
theorem same_cut (s : Same G F) (h : G r = none) : Same G (cut F r) := fun a u e => by
  show (if a = r then none else F a) = some u
  rw [if_neg fun q => by rw [q, h] at e; cases e]
  exact s a u e
theorem cut_sub : Same (cut F r) F := fun a u e => by
  by_cases q : a = r
  · rw [q, cut_at] at e
    cases e
  · rw [cut_ne q] at e
    exact e
end
/-! ### a list that is filled beside -/
theorem Grow.junk {F H F' H' : Hp} {D : Addr} (g : Grow F H F' H') (f : F' D = none) (h : H D = none) (o : HO) : Grow F H F' (upd H' D o) :=
  ⟨g.ff, same_put g.fh o f, fun a u e1 e2 => by
    obtain ⟨z1, z2⟩ := g.hh a u e1 e2
    have n := ne_of_none e2 h
    rw [upd_ne n]
    exact ⟨z1, z2⟩⟩
/-- D is filled with ys while F grows to F' -/
structure Acc (F H : Hp) (D : Addr) (F' H' : Hp) (ys : List V) : Prop where
  g : Grow F H F' H'
  no : F' D = none
  at_ : H' D = some (.lst ys)
  new : H D = none
theorem Acc.start {F : Hp} (s : Same F H) {D : Addr} (h : H D = none) : Acc F H D F (upd H D (.lst [])) [] := ⟨(Grow.refl s).junk (s.free h) h _, s.free h, upd_same, h⟩
theorem Acc.then {F F1 H1 F2 H2 : Hp} {D : Addr} {ys : List V} (a : Acc F H D F1 H1 ys) (g : Grow F1 H1 F2 H2) : Acc F H D F2 H2 ys := by
  obtain ⟨z1, z2⟩ := g.hh D _ a.no a.at_
  exact ⟨a.g.trans g, z1, z2, a.new⟩
theorem Acc.add {F F1 H1 : Hp} {D : Addr} {ys : List V} (a : Acc F H D F1 H1 ys) (y : List V) : Acc F H D F1 (upd H1 D (.lst y)) y := ⟨a.g.junk a.no a.new _, a.no, upd_same, a.new⟩
theorem TpAll.snoc {ds : List PyData} {vs : List V} {d : PyData} {v : V} (h : TpAll H vs ds) (q : Tp H v d) : TpAll H (vs ++ [v]) (ds ++ [d]) := h.app (.cons q .nil)
/-- what is filled becomes a part of what is spoken of -/
theorem Acc.keep {F F1 H1 : Hp} {D : Addr} {ys : List V} (a : Acc F H D F1 H1 ys) : Grow F H (upd F1 D (.lst ys)) H1 := by
  refine ⟨a.g.ff.trans (same_new _ a.no), fun b o e => ?_, fun b o e1 e2 => ?_⟩
  · by_cases q : b = D
    · rw [q, upd_same] at e
      rw [q, a.at_]
      exact e
    · rw [upd_ne q] at e
      exact a.g.fh _ _ e
  · obtain ⟨z1, z2⟩ := a.g.hh b o e1 e2
    rw [upd_ne (ne_of_none e2 a.new)]
    exact ⟨z1, z2⟩
theorem Tp.dict {v : V} {es : List (PyData × PyData)} (h : Tp H v (.dict es)) : ∃ a kvs, v = .ref a ∧ H a = some (.dK kvs) ∧ TpKV H kvs es ∧ (kvs.map (·.1)).Nodup := by
  cases h with
  | dct h1 h2 h3 => exact ⟨_, _, rfl, h1, h2, h3⟩
/-- the two small dicts -/
theorem Tp.odd {a : Addr} (b : Bool) (h : Dl H a b) : Tp H (.ref a) (dictD b) := by
  cases b with
  | true =>
    obtain ⟨l, h1, h2⟩ := (show ∃ l, H a = some (.dK [(Sum.inr "a", .ref l)]) ∧ H l = some (.lst [.int 1]) from h)
    exact .dct h1 (.cons (k := Sum.inr "a") (.lst h2 (.cons (.int 1) .nil)) .nil) (List.pairwise_singleton _ _)
  | false => exact .dct (show H a = some (.dK []) from h) .nil .nil
/-! ### how large a tree is -/
mutual
def dep : PyData → Nat
  | .list ds => 1 + depL ds
  | .tuple ds => 1 + depL ds
  | .dict es => 1 + depE es
  | _ => 0
def depL : List PyData → Nat
  | [] => 0
  | d :: ds => max (dep d) (depL ds)
def depE : List (PyData × PyData) → Nat
  | [] => 0
  | (_, d) :: es => max (dep d) (depE es)
end
mutual
def siz : PyData → Nat
  | .list ds => 1 + sizL ds
  | .tuple ds => 1 + sizL ds
  | .dict es => 1 + sizE es
  | _ => 1
def sizL : List PyData → Nat
  | [] => 0
  | d :: ds => siz d + sizL ds
def sizE : List (PyData × PyData) → Nat
  | [] => 0
  | (_, d) :: es => siz d + sizE es
end
mutual
def mst : PyData → Nat
  | .list ds => mstL ds
  | .tuple ds => mstL ds
  | .str s => s.length
  | .dict es => mstE es
  | _ => 0
def mstL : List PyData → Nat
  | [] => 0
  | d :: ds => max (mst d) (mstL ds)
def mstE : List (PyData × PyData) → Nat
  | [] => 0
  | (_, d) :: es => max (mst d) (mstE es)
end
theorem dep_mem : ∀ {ds : List PyData} {d : PyData}, d ∈ ds → dep d ≤ depL ds
  | [], _, h => by cases h
  | c :: ds, d, h => by
    rcases List.mem_cons.mp h with rfl | h
    · exact Nat.le_max_left _ _
    · exact Nat.le_trans (dep_mem h) (Nat.le_max_right _ _)
theorem mst_mem : ∀ {ds : List PyData} {d : PyData}, d ∈ ds → mst d ≤ mstL ds
  | [], _, h => by cases h
  | c :: ds, d, h => by
    rcases List.mem_cons.mp h with rfl | h
    · exact Nat.le_max_left _ _
    · exact Nat.le_trans (mst_mem h) (Nat.le_max_right _ _)
theorem siz_mem : ∀ {ds : List PyData} {d : PyData}, d ∈ ds → siz d ≤ sizL ds
  | [], _, h => by cases h
  | c :: ds, d, h => by
    show siz d ≤ siz c + sizL ds
    rcases List.mem_cons.mp h with rfl | h
    · omega
    · have z := siz_mem h
      omega
theorem siz_pos : ∀ d : PyData, 1 ≤ siz d
  | .none => Nat.le_refl _
  | .bool _ => Nat.le_refl _
  | .int _ => Nat.le_refl _
  | .str _ => Nat.le_refl _
  | .dict es => by show 1 ≤ 1 + sizE es; omega
  | .list ds => by show 1 ≤ 1 + sizL ds; omega
  | .tuple ds => by show 1 ≤ 1 + sizL ds; omega
theorem siz_len : ∀ ds : List PyData, ds.length ≤ sizL ds
  | [] => Nat.le_refl _
  | d :: ds => by
    show ds.length + 1 ≤ siz d + sizL ds
    have z := siz_len ds
    have y := siz_pos d
    omega
theorem depE_mem : ∀ {es : List (PyData × PyData)} {k d : PyData}, (k, d) ∈ es → dep d ≤ depE es
  | [], _, _, h => by cases h
  | (k, c) :: es, _, d, h => by
    show dep d ≤ max (dep c) (depE es)
    rcases List.mem_cons.mp h with h | h
    · cases h
      exact Nat.le_max_left _ _
    · exact Nat.le_trans (depE_mem h) (Nat.le_max_right _ _)
theorem sizE_mem : ∀ {es : List (PyData × PyData)} {k d : PyData}, (k, d) ∈ es → siz d ≤ sizE es
  | [], _, _, h => by cases h
  | (k, c) :: es, _, d, h => by
    show siz d ≤ siz c + sizE es
    rcases List.mem_cons.mp h with h | h
    · cases h
      omega
    · have z := sizE_mem h
      omega
theorem sizE_len : ∀ es : List (PyData × PyData), es.length ≤ sizE es
  | [] => Nat.le_refl _
  | (k, d) :: es => by
    show es.length + 1 ≤ siz d + sizE es
    have z := sizE_len es
    have y := siz_pos d
    omega
/-- a tree that is not too large -/
structure Bd (n s l : Nat) (d : PyData) : Prop where
  dp : dep d ≤ n
  sz : siz d ≤ s
  ms : mst d ≤ l
theorem dep_row {d : PyData} (h : isRowD d = true) : dep d = 1 + depL (partsD d) := by
  cases d <;> first | rfl | cases h
theorem siz_row {d : PyData} (h : isRowD d = true) : siz d = 1 + sizL (partsD d) := by
  cases d <;> first | rfl | cases h
theorem mst_row {d : PyData} (h : isRowD d = true) : mst d = mstL (partsD d) := by
  cases d <;> first | rfl | cases h
theorem Bd.part {n s l : Nat} {d c : PyData} (b : Bd (n + 1) s l d) (h : isRowD d = true) (m : c ∈ partsD d) : Bd n s l c := by
  have z1 := b.dp
  have z2 := b.sz
  have z3 := b.ms
  rw [dep_row h] at z1
  rw [siz_row h] at z2
  rw [mst_row h] at z3
  have y1 := dep_mem m
  have y2 := siz_mem m
  have y3 := mst_mem m
  exact ⟨by omega, by omega, by omega⟩
theorem Bd.len {n s l : Nat} {d : PyData} (b : Bd n s l d) (h : isRowD d = true) : (partsD d).length < s := by
  have z2 := b.sz
  rw [siz_row h] at z2
  have y := siz_len (partsD d)
  omega
theorem Bd.up {n s l n' s' l' : Nat} {d : PyData} (b : Bd n s l d) (h1 : n ≤ n') (h2 : s ≤ s') (h3 : l ≤ l') : Bd n' s' l' d := ⟨Nat.le_trans b.dp h1, Nat.le_trans b.sz h2, Nat.le_trans b.ms h3⟩
theorem Bd.row0 {s l : Nat} {d : PyData} (b : Bd 0 s l d) : isRowD d = false := by
  have z := b.dp
  cases e : isRowD d with
  | false => rfl
  | true =>
    rw [dep_row e] at z
    omega
end
/-! ### what stands at a place is one tree; a tree without a place that is above it -/
mutual
theorem Tp.one {H : Hp} : ∀ {d e : PyData} {v : V}, Tp H v d → Tp H v e → d = e
  | .none, e, _, h, g => by cases h; cases g; rfl
  | .bool _, e, _, h, g => by cases h; cases g; rfl
  | .int _, e, _, h, g => by cases h; cases g; rfl
  | .str _, e, _, h, g => by cases h; cases g; rfl
  | .list ds, e, _, h, g => by
    cases h with
    | lst h1 h2 =>
      cases g with
      | lst g1 g2 =>
        rw [h1] at g1
        cases g1
        rw [TpAll.one h2 g2]
      | tup g1 _ => rw [h1] at g1; cases g1
      | dct g1 _ _ => rw [h1] at g1; cases g1
  | .tuple ds, e, _, h, g => by
    cases h with
    | tup h1 h2 =>
      cases g with
      | tup g1 g2 =>
        rw [h1] at g1
        cases g1
        rw [TpAll.one h2 g2]
      | lst g1 _ => rw [h1] at g1; cases g1
      | dct g1 _ _ => rw [h1] at g1; cases g1
  | .dict es, e, _, h, g => by
    cases h with
    | dct h1 h2 _ =>
      cases g with
      | dct g1 g2 _ =>
        rw [h1] at g1
        cases g1
        rw [TpKV.one h2 g2]
      | lst g1 _ => rw [h1] at g1; cases g1
      | tup g1 _ => rw [h1] at g1; cases g1
theorem TpAll.one {H : Hp} : ∀ {ds es : List PyData} {vs : List V}, TpAll H vs ds → TpAll H vs es → ds = es
  | [], _, _, h, g => by cases h; cases g; rfl
  | d :: ds, _, _, h, g => by
    cases h with
    | cons h1 h2 =>
      cases g with
      | cons g1 g2 => rw [Tp.one h1 g1, TpAll.one h2 g2]
theorem TpKV.one {H : Hp} : ∀ {ds es : List (PyData × PyData)} {vs : List (Key × V)}, TpKV H vs ds → TpKV H vs es → ds = es
  | [], _, _, h, g => by cases h; cases g; rfl
  | (k, d) :: ds, _, _, h, g => by
    cases h with
    | cons h1 h2 =>
      cases g with
      | cons g1 g2 => rw [Tp.one h1 g1, TpKV.one h2 g2]
end
mutual
theorem Tp.beneath {H : Hp} {a : Addr} {c : PyData} (hc : Tp H (.ref a) c) : ∀ {d : PyData} {v : V}, Tp H v d → siz d < siz c → Tp (cut H a) v d
  | .none, _, h, _ => by cases h; exact .non
  | .bool _, _, h, _ => by cases h; exact .bl _
  | .int _, _, h, _ => by cases h; exact .int _
  | .str _, _, h, _ => by cases h; exact .str _
  | .list ds, _, h, l => by
    have hh := h
    cases h with
    | @lst b _ _ h1 h2 =>
      have n : b ≠ a := fun e => by
        rw [e] at hh
        rw [Tp.one hh hc] at l
        omega
      refine .lst (by rw [cut_ne n]; exact h1) (TpAll.beneath hc h2 ?_)
      have z : siz (.list ds) = 1 + sizL ds := rfl
      omega
  | .tuple ds, _, h, l => by
    have hh := h
    cases h with
    | @tup b _ _ h1 h2 =>
      have n : b ≠ a := fun e => by
        rw [e] at hh
        rw [Tp.one hh hc] at l
        omega
      refine .tup (by rw [cut_ne n]; exact h1) (TpAll.beneath hc h2 ?_)
      have z : siz (.tuple ds) = 1 + sizL ds := rfl
      omega
  | .dict es, _, h, l => by
    have hh := h
    cases h with
    | @dct b _ _ h1 h2 h3 =>
      have n : b ≠ a := fun e => by
        rw [e] at hh
        rw [Tp.one hh hc] at l
        omega
      refine .dct (by rw [cut_ne n]; exact h1) (TpKV.beneath hc h2 ?_) h3
      have z : siz (.dict es) = 1 + sizE es := rfl
      omega
theorem TpAll.beneath {H : Hp} {a : Addr} {c : PyData} (hc : Tp H (.ref a) c) : ∀ {ds : List PyData} {vs : List V}, TpAll H vs ds → sizL ds < siz c → TpAll (cut H a) vs ds
  | [], _, h, _ => by cases h; exact .nil
  | d :: ds, _, h, l => by
    have z : sizL (d :: ds) = siz d + sizL ds := rfl
    cases h with
    | cons h1 h2 => exact .cons (Tp.beneath hc h1 (by omega)) (TpAll.beneath hc h2 (by omega))
theorem TpKV.beneath {H : Hp} {a : Addr} {c : PyData} (hc : Tp H (.ref a) c) : ∀ {es : List (PyData × PyData)} {vs : List (Key × V)}, TpKV H vs es → sizE es < siz c → TpKV (cut H a) vs es
  | [], _, h, _ => by cases h; exact .nil
  | (k, d) :: es, _, h, l => by
    have z : sizE ((k, d) :: es) = siz d + sizE es := rfl
    cases h with
    | cons h1 h2 => exact .cons (Tp.beneath hc h1 (by omega)) (TpKV.beneath hc h2 (by omega))
end
end Fm

/-! ## FmExc -/
set_option Elab.async false
set_option maxRecDepth 100000
set_option maxHeartbeats 4000000
/-! Own errors that hold a field: isinstance of a caught one, its field, raised by keyword, raised without arguments. -/
namespace Fm
open PySem PySem.Spec PySem.Calls PyProof.Rows
section
variable {prog : Program} {w : World} {A : Around} {E : Value → Shared → Prop} {s : Shared} {K : PySem.W.Frag} {x D : Addr} {ox : Obj} {od : Option Obj}
theorem find_data {a g : Value} {nm : Str} (hc : (PySem.W.clsIn K D).isSome = true) (h1 : PySem.W.findIn K (.ref D) nm = some (some a)) (h2 : PySem.W.specialIn K a "__get__" = some (some g)) (h3 : PySem.W.takesIn K a = some true) :
    PySem.W.findObj K D od nm = some (.bind g a) := by
  cases e : PySem.W.clsIn K D with
  | none => rw [e] at hc; cases hc
  | some cd => unfold PySem.W.findObj; simp [e, h1, h2, h3]
/-- e.__class__ of an error, with a dict or without -/
theorem err_class {Q : Option Value → Shared → Prop} (C : L2.ExcC K D) (X : K.In s.heap) (I : PySem.W.InstAt s.heap x ox D od) (h : Q (some (.ref D)) { s with toks := s.toks + 1 }) : wpAny (model prog w) A (getAttr? (.ref x) "__class__") Q E s := by
  have ff : PySem.W.findObj K D od "__class__" = some (.bind (.builtin "getset_descriptor.__get__") (.builtin "object.__class__")) := find_data (by obtain ⟨cd, e, _⟩ := PySem.W.any_some C.hd; rw [e]; rfl) C.ha C.hn C.ht
  obtain ⟨hp, g, d, t, os⟩ := s
  have l0 := I.type (M := model prog w)
  have l1 := PySem.W.looks_findIn (M := model prog w) X C.hg
  have l2 := PySem.W.looks_findIn (M := model prog w) X C.hk
  have l3 := PySem.W.looks_find (M := model prog w) X I ff
  have ln : PySem.W.Looks (model prog w) hp (isInstance (.ref x) (.type "BaseException")) true := l0.andThen (PySem.W.looks_subIn X C.hs)
  have n2 : (Value.builtin "BaseException.__getattribute__" == Value.builtin "object.__getattribute__") = false := by decide +kernel
  have n1 : (onTheHeap (Value.ref D) && (Value.builtin "BaseException.__getattribute__" == Value.builtin "object.__getattribute__")) = false := by rw [n2]; rfl
  have n0 : (false && onTheHeap (Value.builtin "BaseException.__getattribute__")) = false := rfl
  unfold getAttr?; unfold getAttrBy?; unfold getAttrBy
  refine wpAny_bind (wpAny_mkText ?_); refine wpAny_bind (wpAny_attempt (wpAny_holding ?_)); refine wpAny_bind (l0.at ?_); refine wpAny_bind (l1.at ?_)
  show wpAny (model prog w) _ (if (onTheHeap (Value.ref D) && (Value.builtin "BaseException.__getattribute__" == Value.builtin "object.__getattribute__")) = true then _ else _) _ _ _
  rw [n1, if_neg Bool.false_ne_true]; unfold getAttrByItsOwn; unfold hookBefore
  refine wpAny_bind ?_; rw [if_pos (show onTheHeap (Value.ref D) = true from rfl)]; refine l2.at ?_
  refine wpAny_bind (wpAny_attempt (wpAny_holding ?_)); unfold callGetattribute; rw [n0, if_neg Bool.false_ne_true]; unfold boundAndCalled
  rw [PySem.F.excAttr_ValueError.ga.bind (.ref x)]; refine wpAny_bind (wpAny_pure ?_)
  show wpAny (model prog w) _ (call (.builtin "BaseException.__getattribute__") [.ref x, .str "__class__" t]) _ _ _
  refine wpAny_call (codeAny_call_builtin PySem.F.excAttr_ValueError.ga.plain PySem.F.entry_bexc_ga ?_)
  refine @PySem.W.check_slot (model prog w) _ _ ⟨hp, g, d, t + 1, os⟩ "BaseException.__getattribute__" "BaseException" "__getattribute__" (.ref x) [.str "__class__" t] [] _ (by decide +kernel) (by decide +kernel) ln (PySem.F.args_bexc_ga (.ref x) (.str "__class__" t)) ?_
  unfold Builtin.«object.__getattribute__»
  refine wpAny_bind (wpAny_of_eq (a := ((Value.ref x : Value), [Value.str "__class__" t])) (by first | rfl | (simp only [slotArgs]; rfl)) ?_)
  refine wpAny_bind (wpAny_pure ?_); refine wpAny_bind (l0.at ?_); refine wpAny_bind (l3.at ?_)
  show wpAny (model prog w) _ (holding [Value.builtin "object.__class__"] (call (.builtin "getset_descriptor.__get__") [.builtin "object.__class__", .ref x, .ref D]) >>= ret) _ _ _
  refine wpAny_bind (wpAny_holding (wpAny_call (PySem.W.class_get (s := ⟨hp, g, d, t + 1, os⟩) (ox := ox) (od := od) X I C.hm ?_)))
  refine wpAny_pure ?_
  show wpAny (model prog w) _ (handedOut (.ref D)) _ _ _
  rw [PySem.W.handedOut_of (v := .ref D) rfl]
  first | exact wpAny_pure (wpAny_pure h) | exact wpAny_pure h | exact wpAny_pure (wpAny_bind (wpAny_pure (wpAny_pure h)))
theorem err_kit (C : L2.ExcC K D) : PySem.W.KitX K (.ref x) (.ref D) (fun h => ∃ od, PySem.W.InstAt h x ox D od) where
  ty := fun _ _ _ ⟨_, I⟩ => I.type
  it := fun _ _ X _ => by
    obtain ⟨cd, e, _⟩ := PySem.W.any_some C.hd
    unfold PySem.W.clsIn at e
    split at e
    · rename_i o1 o2 o3 o4 ho
      intro A' Q' E' s' k q
      unfold isType; unfold loadHead
      exact wpAny_bind (wpAny_loadPart (k _ _ (X _ _ ho)) (wpAny_pure q))
    · cases e
  ne := fun h tp dd its n sl X htp => by
    obtain ⟨cd, e, _⟩ := PySem.W.any_some C.hd
    refine Bool.eq_false_iff.mpr fun q => ?_
    cases Value.ref.inj (beq_iff_eq.mp q)
    unfold PySem.W.clsIn at e
    split at e
    · rename_i o1 o2 o3 o4 ho
      cases (X _ _ ho).symm.trans htp
    · cases e
  ca := fun X ⟨_, I⟩ k => err_class C X I k
end
section
open L2
variable {X : Cx}
theorem inst_err {H : Hp} {s : Shared} {a D : Addr} {oe : Obj} {d : Option Addr} (hget : s.heap.get? a = some oe) (hok : HOk X.prog X.w H s.heap) (hz : Zc (.ref D) d oe) (hf : ∃ vs, oe.data = .fields vs) (hd : ∀ dd, d = some dd → ∃ fs, H dd = some (.xd fs)) :
    ∃ od, PySem.W.InstAt s.heap a oe D od := by
  obtain ⟨vs, hv⟩ := hf
  have nc : PySem.W.notCls oe = true := by unfold PySem.W.notCls; rw [hv] <;> rfl
  cases d with
  | none => exact ⟨none, hget, hz.1, nc, by rw [hz.2]; trivial⟩
  | some dd =>
    obtain ⟨fs, e⟩ := hd dd rfl
    have z : ObjOk X.prog X.w H s.heap dd (.xd fs) := hok dd _ e
    obtain ⟨mA, hns, _⟩ := z
    obtain ⟨od, ho, _⟩ := lookIn_ns hns
    exact ⟨some od, hget, hz.1, nc, by rw [hz.2]; exact ho⟩
/-- isinstance(e, c), e the error that the suite holds: its class and its dict as they come -/
def rIsF (K : PySem.W.Frag) (a : Addr) (cls : Value) (d : Option Addr) : List V → Hp → VK → Prop := fun xs H Q => ∃ (D : Addr) (c : V) (u : Value) (b : Bool), xs = [.ref a, c] ∧ cls = .ref D ∧ ExcC K D ∧ (∀ dd, d = some dd → ∃ fs, H dd = some (.xd fs)) ∧ ClsV c u ∧ PySem.W.kitOne K (.ref D) u = some b ∧ Q (.bl b) H
theorem call_isF {a : Addr} {cls : Value} {d : Option Addr} {oe : Obj} {pn : List (Addr × Obj)} (hz : Zc cls d oe) (hf : ∃ vs, oe.data = .fields vs) : CallR (X.suite a ((a, oe) :: pn)) (.builtin "isinstance") (rIsF X.K a cls d) := by
  intro pins s σ H xs us Q I r h
  obtain ⟨D, c, u, b, rfl, rfl, C, hd, hc, e, q⟩ := h
  obtain ⟨u1, u2, rfl, r1, r2⟩ := vals2 r
  have e2 := hc.eq r2
  subst e2
  cases (show u1 = Value.ref a from r1)
  obtain ⟨hg, _⟩ := I.pin (a, oe) (List.mem_append_left _ List.mem_cons_self)
  exact PySem.W.kia_one (err_kit C) I.kIn (inst_err hg I.hok hz hf hd) e (fun z => nomatch z) fun tk => ⟨.bl b, H, I.tok tk, rfl, q⟩
/-- e.f, e the error that the suite holds -/
def tXg (K : PySem.W.Frag) (a : Addr) (cls : Value) (d : Option Addr) (f : Str) (te : TE) : TE := fun σ H Q => te σ H fun x H1 => x = .ref a ∧ ∃ (C dd : Addr) (fs : List (Str × V)) (v : V), cls = .ref C ∧ XfC K C ∧ PySem.W.findIn K (.ref C) f = some none ∧ d = some dd ∧ H1 dd = some (.xd fs) ∧ fs.lookup f = some v ∧ Q v H1
theorem pe_xg {a : Addr} {oe : Obj} {cls : Value} {d : Option Addr} {pn : List (Addr × Obj)} {e : Expr} {te : TE} {pos : Pos} {n : Str} (hz : Zc cls d oe) (hf : ∃ vs, oe.data = .fields vs) (he : PE (X.suite a ((a, oe) :: pn)) e te)
    (hb : attributeBase e n X.env (eval e X.env) = eval e X.env := by rfl) : PE (X.suite a ((a, oe) :: pn)) (.Attribute e n pos) (tXg X.K a cls d n te) := by
  refine ⟨fun pins s σ H Q I h => attr_of hb (thn (he.run pins s σ H _ I h) fun u s1 hh => ?_)⟩
  obtain ⟨x, H1, I1, rx, rfl, C, dd, fs, v, rfl, T, hno, rfl, ea, l, q⟩ := hh
  cases (show u = Value.ref a from rx)
  obtain ⟨ha, _⟩ := I1.pin (a, oe) (List.mem_append_left _ List.mem_cons_self)
  obtain ⟨vs, hd⟩ := hf
  have z : ObjOk X.prog X.w H1 s1.heap dd (.xd fs) := I1.hok dd _ ea
  obtain ⟨mA, hns, hr⟩ := z
  obtain ⟨od, ho, hl⟩ := lookIn_ns hns
  obtain ⟨u, hu, ru⟩ := RelO.some_of (v := v) (o := mA n) (by rw [← l]; exact hr n)
  exact HandSPX.exc_get I1.kIn ⟨ha, hz.1, by unfold PySem.W.notCls; rw [hd] <;> rfl, by rw [hz.2]; exact ho⟩ T.ga T.gg T.exC (PySem.W.findObj_own T.hdC hno rfl (by rw [hl, hu])) (handed_of ru) ⟨v, H1, I1.tok _, ru, q⟩
theorem pmk_own0 {C : Addr} {bmB : List Value} {B newId initId : String} {x : Str} {p pos : Pos} (F : ExcBaseFacts B newId initId bmB) (q : PySem.W.excIn X.K C bmB newId = true) (gC : X.mg x = some (.ref C))
    (kC : PySem.W.keepIn X.K (.ref C) = true) (r : Raises X (.ref C)) (hg : Gl X x := by rfl) (hdb : (x == ("__debug__" : Str)) = false := by decide) : PMk X (.Call (.Name x p) [] [] pos) (fun _ H Q => Q (.ref C) none H) := by
  intro pins s σ H Q I h
  refine wpAny_Call_Name_kw (ld_glob I hg gC ?_ hdb)
  refine PySem.W.callWith_K0 I.kIn kC ?_
  obtain ⟨bm, N, nm, qn, bs, hdct, sn, sub, ab, col, dd, k0, k1, k2, k3, k5, mN, hC, hN, hni, T⟩ := exc_obj I.kIn q
  exact wpAny_call_exc_subT F T hC hN hni (fun h' e hm => mk_of I hm r h (I.hok.gone hm.new)) (Nat.zero_le _)
end
section
open PySem.HandSPX
variable {M : Model} {A : Around} {E : Value → Shared → Prop} {h : Heap} {g : Array GenState} {d : Drawn} {t : Nat} {os : OsState}
variable {nm q : Str} {C N : Addr} {bs bm bmB : List Value} {hdct : Bool} {sn : List Str} {sub : List Value} {ab : Bool} {col : Option Bool} {dd : Option Addr} {k0 k1 k2 k3 k5 : Option Value} {B newId initId : String}
theorem check_newK (F : ExcBaseFacts B newId initId bmB) (hT : ∀ X : String, bm.contains (.type X) = bmB.contains (.type X)) {kw : List (Str × Value)} {Q : Unit → Shared → Prop}
    (hC : h.get? C = some (excClassObj nm q C N bs bm hdct sn sub ab col dd k0 k1 k2 k3 k5 newId)) (hq : Q () ⟨h, g, d, t, os⟩) : wpAny M A (checkBuiltinCall newId ⟨[.ref C], kw⟩) Q E ⟨h, g, d, t, os⟩ := by
  have c1 : (Value.ref C :: bm).contains (.type B) = true := by rw [List.contains_cons, hT, F.hasB, Bool.or_true]
  have c2 := F.noStar
  simp only [checkBuiltinCall, F.newKind, F.newSplit, F.newRow]
  repeat (first
    | refine wpAny_loadPart_at hC ?_
    | (refine wpAny_isSubtype_exc hC ?_; rw [c1])
    | refine wpAny_staticBase_exc hC ?_
    | refine wpAny_madeBy_exc hC ?_
    | simp only [bne_self_eq_false, Bool.false_eq_true, if_false]
    | wp_step)
  exact hq
end
section
open PySem.HandSPX
variable {prog : Program} {w : World} {A : Around} {E : Value → Shared → Prop} {R : Result → Shared → Prop} {h : Heap} {g : Array GenState} {d : Drawn} {t : Nat} {os : OsState}
variable {nm q : Str} {C N : Addr} {bs bm bmB : List Value} {hdct : Bool} {sn : List Str} {sub : List Value} {ab : Bool} {col : Option Bool} {dd : Option Addr} {k0 k1 k2 k3 k5 : Option Value} {B newId initId : String}
theorem new_ownK (F : ExcBaseFacts B newId initId bmB) (hT : ∀ X : String, bm.contains (.type X) = bmB.contains (.type X)) {kw : List (Str × Value)}
    (hC : h.get? C = some (excClassObj nm q C N bs bm hdct sn sub ab col dd k0 k1 k2 k3 k5 newId))
    (hq : R (.ok (.ret (.ref (h.objs.size + 1)))) ⟨(h.push (PySem.W.kdv_tup [])).push (excO C h.objs.size), g, d, t, os⟩) : codeAny (model prog w) A (.builtin newId ⟨[.ref C], kw⟩) R ⟨h, g, d, t, os⟩ := by
  have hends := F.ends
  have c1 : (Value.ref C :: bm).contains (.type B) = true := by rw [List.contains_cons, hT, F.hasB, Bool.or_true]
  have c2 : (Value.ref C :: bm).contains (.type "AttributeError") = false := by rw [List.contains_cons, hT, F.noAttr]; rfl
  have c3 : (Value.ref C :: bm).contains (.type "NameError") = false := by rw [List.contains_cons, hT, F.noName]; rfl
  refine codeAny_builtinAt F.entry ?_
  unfold Builtin.«BaseException.__new__»
  refine PySem.wpAt_bind ?_
  show PySem.wpAt _ _ _ (stack >>= _) _ _ _
  refine PySem.wpAt_bind (PySem.wpAt_stack fun p below => PySem.wpAt_of_wpAny ?_)
  wp_walk
  refine PySem.wpAt_of_wpAny ?_
  rw [F.owner]
  repeat (first
    | with_reducible refine wpAny_madeHere_exc F.canon hC ?_
    | with_reducible refine wpAny_loadPart_at hC ?_
    | (with_reducible refine wpAny_isSubtype_exc hC ?_; first | rw [c1] | rw [c2] | rw [c3])
    | wp_step)
  show R _ _
  rw [Heap.size_push]
  exact hq
theorem type_callK (F : ExcBaseFacts B newId initId bmB) (hT : ∀ X : String, bm.contains (.type X) = bmB.contains (.type X)) {kw : List (Str × Value)} {fI : Addr} {Q : Fin → Shared → Prop}
    (hC : h.get? C = some (excClassObj nm q C N bs bm hdct sn sub ab col dd k0 k1 k2 k3 k5 newId))
    (hi : PySem.W.Looks (model prog w) h (typeLookup (.ref C) "__init__") (some (.ref fI))) (hb : ∀ self, PySem.W.Looks (model prog w) h (bindSpecial (.ref fI) self) (.ref fI, [self]))
    (hq : codeAny (model prog w) A (.call (.ref fI) ⟨[.ref (h.objs.size + 1)], kw⟩)
      (fun r s' => match r with | .ok (.ret v) => v = .none ∧ Q (.done (.ret (.ref (h.objs.size + 1)))) s' | .ok _ => False | .error e => E e s') ⟨(h.push (PySem.W.kdv_tup [])).push (excO C h.objs.size), g, d, t, os⟩) :
    wpAny (model prog w) A (Builtin.«type.__call__» ⟨[.ref C], kw⟩) Q E ⟨h, g, d, t, os⟩ := by
  repeat (first
    | with_reducible refine wpAny_loadPart_at hC ?_
    | with_reducible refine wpAny_madeBy_exc hC ?_
    | wp_step)
  refine codeAny_call_builtin_code (Code.quiet_builtin _ F.quiet) (check_newK F hT hC ?_)
  refine new_ownK F hT hC ?_
  show wpAny _ _ _ _ _ _
  have k : ∀ b o, h.get? b = some o → ((h.push (PySem.W.kdv_tup [])).push (excO C h.objs.size)).get? b = some o := fun b o e => Heap.get?_push_of_some _ (Heap.get?_push_of_some _ e)
  have e1 := k _ _ hC
  have e2 : ((h.push (PySem.W.kdv_tup [])).push (excO C h.objs.size)).get? (h.objs.size + 1) = some (excO C h.objs.size) := by heap_get
  have e3 : (Value.ref C :: bm).contains (.ref C) = true := by simp
  have i1 := hi.keeps k
  have b1 := (hb (.ref (h.objs.size + 1))).keeps k
  unfold isInstance
  repeat (first
    | with_reducible refine wpAny_loadPart_at e2 ?_
    | (with_reducible refine wpAny_isSubtype_exc e1 ?_; rw [e3])
    | wp_step)
  show wpAny _ _ (typeLookup (.ref C) _) _ _ _
  refine i1.at ?_
  refine wpAny_holding (wpAny_bind (b1.at ?_))
  refine wpAny_bind (wpAny_call (codeAny_mono hq fun r s' z => ?_))
  rcases r with e | (v | _ | _ | _) <;> first | exact z | exact z.elim | skip
  obtain ⟨rfl, z⟩ := z
  first
    | exact wpAny_pure (wpAny_pure z)
    | (wp_walk; exact z)
theorem call_ownK (F : ExcBaseFacts B newId initId bmB) (hT : ∀ X : String, bm.contains (.type X) = bmB.contains (.type X)) {kw : List (Str × Value)} {fI : Addr}
    (hC : h.get? C = some (excClassObj nm q C N bs bm hdct sn sub ab col dd k0 k1 k2 k3 k5 newId))
    (hi : PySem.W.Looks (model prog w) h (typeLookup (.ref C) "__init__") (some (.ref fI))) (hb : ∀ self, PySem.W.Looks (model prog w) h (bindSpecial (.ref fI) self) (.ref fI, [self]))
    (hq : codeAny (model prog w) (A.under (.builtin "type.__call__" ⟨[.ref C], kw⟩)) (.call (.ref fI) ⟨[.ref (h.objs.size + 1)], kw⟩) (PySem.W.InitBack (h.objs.size + 1) R) ⟨(h.push (PySem.W.kdv_tup [])).push (excO C h.objs.size), g, d, t, os⟩) :
    codeAny (model prog w) A (.call (.ref C) ⟨[], kw⟩) R ⟨h, g, d, t, os⟩ := by
  have f1 := tc_lookup
  have f2 := tc_bind (.ref C)
  have hTy : (⟨h, g, d, t, os⟩ : Shared).TypeIs (.ref C) "type" := ⟨_, hC, rfl⟩
  refine codeAny_of_tree ?_
  show wpAny _ _ (callAny (.ref C) _) _ _ _
  repeat (any_goals (first | assumption | with_reducible refine wpAny_loadPart_at hC ?_ | wp_step))
  refine ⟨rfl, ?_⟩
  refine codeAny_call_builtin_at (Code.quiet_builtin _ (by decide +kernel)) entry_typeCall (wpAny_check_type_call_sub hC (type_callK F hT hC hi hb ?_))
  refine codeAny_mono hq fun r s' z => ?_
  rcases r with e | (v | _ | _ | _) <;> exact z
end
section
open L2
variable {X : Cx} {kws : List Keyword} {tk : TA} {p pos : Pos} {g : List Value → List Value → List Value} {gV : List V → List V → List V} {ks : List Str}
/-- C(k = v, ..) of an own error class: laid bare, then its __init__ -/
def tMkK (C : Addr) (m : Nat) (sp : Sp) (gV : List V → List V → List V) (tk : TA) : L2.St → Hp → XK → Prop := fun σ H Q => tk σ H fun zs H1 => zs.length = m ∧ ∀ a, H1 a = none → sp (gV [.ref a] zs) (upd H1 a (exo a C none))
  (fun v H2 => v = .non ∧ ∃ (d : Addr) (fs : List (Str × V)), H2 a = some (exo a C (some d)) ∧ H2 d = some (exd d fs) ∧ H1 d = none ∧ Q (.ref C) (some d) (upd (del H2 a) d (.xd fs))) (fun _ _ _ => False)
theorem pmk_oexK {CX : CXT} {x : Str} {C fI : Addr} {k : Nat} {fd : FuncData} {ps : List Str} {sp : Sp} (T : OexC X.K C) (iC : PySem.W.findIn X.K (.ref C) "__init__" = some (some (.ref fI))) (tI : PySem.W.typeIn X.K (.ref fI) = some (.type "function"))
    (F1 : FnOk X.prog X.w X.K X.mg X.base CX k fI fd ps sp) (hr : Room (k + 1) X.A) (hb : KBn X.K fd ps 1 ks g gV) (hx : Passes CX X (fun _ _ _ => False)) (hm : X.mg x = some (.ref C)) (hkw : PK X kws tk) (hg : Gl X x := by rfl)
    (hall : (backToKw pos (keywordEach kws X.env)).all (·.1.isSome) = true := by rfl) (hks : (backToKw pos (keywordEach kws X.env)).filterMap (·.1) = ks := by rfl) (hdb : (x == ("__debug__" : Str)) = false := by decide)
    (hpl : ((backTo pos (starEach [] X.env)).any (·.1) || (backToKw pos (keywordEach kws X.env)).any (·.1.isNone)) = false := by rfl) :
    PMk X (.Call (.Name x p) [] kws pos) (tMkK C ks.length sp gV tk) := by
  intro pins s σ H Q I h
  obtain ⟨nm, q, N, bs, bm, sn, sub, ab, col, dd, k0, k1, k2, k3, k5, hC, hbm⟩ := T.cls
  refine wpAny_Call_Name_kw (ld_glob I hg hm ?_ hdb)
  refine PySem.W.callWith_KW0 (h₀ := X.base) I.ok.mod.kin T.kC hall ?_ hpl
  refine thn (hkw.run pos pins s σ H _ I h) fun ws s1 ⟨zs, H1, I1, rz, q1⟩ => ⟨I1.kIn, ?_⟩
  rw [hks]
  show wpAny _ _ (call (.ref C) [] (ks.zip ws)) _ _ _
  obtain ⟨hp, gg, dr, tok, os⟩ := s1
  have z1 : hp.objs.size ≤ hp.objs.size + 1 := Nat.le_succ _
  have hq := q1.2 (hp.objs.size + 1) (I1.hok.fresh z1)
  have kk : ∀ b o, hp.get? b = some o → ((hp.push (PySem.W.kdv_tup [])).push (PySem.HandSPX.excO C hp.objs.size)).get? b = some o := fun b o e => Heap.get?_push_of_some _ (Heap.get?_push_of_some _ e)
  have hget : ((hp.push (PySem.W.kdv_tup [])).push (PySem.HandSPX.excO C hp.objs.size)).get? (hp.objs.size + 1) = some (PySem.HandSPX.excO C hp.objs.size) := by heap_get
  have I2 : Inv X pins σ (upd H1 (hp.objs.size + 1) (exo (hp.objs.size + 1) C none)) ⟨(hp.push (PySem.W.kdv_tup [])).push (PySem.HandSPX.excO C hp.objs.size), gg, dr, tok, os⟩ :=
    I1.laid (t' := tok) (a := hp.objs.size + 1) (o := exo (hp.objs.size + 1) C none) (h' := (hp.push (PySem.W.kdv_tup [])).push (PySem.HandSPX.excO C hp.objs.size)) kk z1 (exo_ok hget)
  have r2 := hb.rel (vs := [V.ref (hp.objs.size + 1)]) (us := [Value.ref (hp.objs.size + 1)]) (.cons rfl .nil) rz
  refine wpAny_call (call_ownK F.excBase_ValueError (fun Y => PySem.HandSPX.refsVE_contains Y bm hbm) (I1.kIn _ _ hC) (PySem.W.looks_findIn I1.kIn iC) (fun self => PySem.W.bind_fn I1.kIn self tI)
    (codeAny_mono (F1.run _ X.stack _ _ ⟨[Value.ref (hp.objs.size + 1)], ks.zip ws⟩ (g [Value.ref (hp.objs.size + 1)] ws) _ _ (fun _ _ _ => False) (hr.make C [] (ks.zip ws)) (I2.env0.make C [] (ks.zip ws))
      (hb.to _ [Value.ref (hp.objs.size + 1)] ws I2.kIn rfl (rz.length.symm.trans q1.1)) r2 hq) fun r s' hq' => ?_))
  cases r with
  | error er => exact hx pins σ _ _ er s' I2 hq'
  | ok fl =>
    cases fl with
    | ret u =>
      obtain ⟨v, H2, os2, bare2, un2, hok2, rv, ev, d, fs, ea, ed, hd1, q2⟩ := hq'
      subst ev
      obtain ⟨h2, g2, d2, t2, os'⟩ := s'
      exact ⟨rv, mk_end (raises_own T.exC T.tyC) I1 z1 kk un2 hok2 os2 bare2 ea ed hd1 q2⟩
    | next => exact False.elim hq'
    | brk => exact False.elim hq'
    | cont => exact False.elim hq'
end
end Fm

/-! ## FmRaise -/
set_option Elab.async false
set_option maxRecDepth 100000
set_option maxHeartbeats 4000000
/-! Raising own errors: by position, by keyword, without arguments; a def that raises, called within a try. -/
namespace Fm
open PySem PySem.Spec PyProof.Rows L2
/-- __init__(self, v) of an own error: self.f = v -/
def spIn (K : PySem.W.Frag) (f : Str) : Sp := fun vs H Q _ => ∃ (a C : Addr) (v : V), vs = [.ref a, v] ∧ OexC K C ∧ H a = some (exo a C none) ∧ PySem.W.findIn K (.ref C) f = some none ∧ ∀ dx, H dx = none → dx ≠ a → Q .non (upd (upd H dx (exd dx [(f, v)])) a (exo a C (some dx)))
structure Xf (P : Program) (w : World) (K : PySem.W.Frag) (mg : Str → Option Value) (base : Heap) (x : Str) (C : Addr) (f : Str) : Prop where
  ex : ∃ (fI : Addr) (fd : FuncData), OexC K C ∧ PySem.W.findIn K (.ref C) "__init__" = some (some (.ref fI)) ∧ PySem.W.typeIn K (.ref fI) = some (.type "function") ∧ FnOk P w K mg base CX0 1 fI fd ["self", f] (spIn K f) ∧ mg x = some (.ref C) ∧ Binds K fd ["self", f] [] ∧
    KBn K fd ["self", f] 1 [f] (fun us ws => us ++ ws) (fun vs zs => vs ++ zs) ∧ PySem.W.findIn K (.ref C) f = some none
structure X0 (K : PySem.W.Frag) (mg : Str → Option Value) (x : Str) (C : Addr) : Prop where
  ex : ∃ (bmB : List Value) (B newId initId : String), ExcBaseFacts B newId initId bmB ∧ PySem.W.excIn K C bmB newId = true ∧ mg x = some (.ref C) ∧ PySem.W.keepIn K (.ref C) = true ∧ PySem.W.subIn K (.ref C) (.type "BaseException") = some true ∧ PySem.W.typeIn K (.ref C) = some (.type "type")
def tRE (C : Addr) (f : Str) (i : Nat) (W : WX) : TS := fun _ σ H => ∃ v, σ[i]? = some (some v) ∧ ∀ d, H d = none → W (.ref C) (some d) σ (upd H d (.xd [(f, v)]))
theorem del_upd {H : Hp} {a d : Addr} {o1 o2 o3 o4 : HO} (ha : H a = none) (ne : d ≠ a) : upd (del (upd (upd (upd H a o1) d o2) a o3) a) d o4 = upd H d o4 := funext fun b => by
  by_cases q : b = d
  · rw [q, upd_same, upd_same]
  · rw [upd_ne q, upd_ne q]
    by_cases z : b = a
    · rw [z, del_same, ha]
    · rw [del_ne z, upd_ne z, upd_ne q, upd_ne z]
section
variable {X : Cx} {W : WX} {x f : Str} {C : Addr} {i : Nat} {e : Expr} {p pos pos' kpos : Pos}
theorem init_read {K : PySem.W.Frag} {H : Hp} {a : Addr} {v : V} {Q : XK} {E : XK} (T : OexC K C) (hno : PySem.W.findIn K (.ref C) f = some none) (ha : H a = none) (k : ∀ d, H d = none → Q (.ref C) (some d) (upd H d (.xd [(f, v)]))) :
    spIn K f [.ref a, v] (upd H a (exo a C none)) (fun z H2 => z = .non ∧ ∃ (d : Addr) (fs : List (Str × V)), H2 a = some (exo a C (some d)) ∧ H2 d = some (exd d fs) ∧ H d = none ∧ Q (.ref C) (some d) (upd (del H2 a) d (.xd fs))) E :=
  ⟨a, C, v, rfl, T, upd_same, hno, fun dx hdx ne => ⟨rfl, dx, [(f, v)], upd_same, by rw [upd_ne ne, upd_same], by rw [upd_ne ne] at hdx; exact hdx, by rw [del_upd ha ne]; exact k dx (by rw [upd_ne ne] at hdx; exact hdx)⟩⟩
theorem ps_rE (B : Xf X.prog X.w X.K X.mg X.base x C f) (hr : Room 2 X.A) (tk : Takes X W) (he : PE X e (tVar i)) (hc : X.calm = true := by rfl) (hg : Gl X x := by rfl) (hdb : (x == ("__debug__" : Str)) = false := by decide)
    (hst : starEach [e] X.env = (false, eval e X.env) :: starEach [] X.env := by rfl) (hpl : (backTo pos (starEach [] X.env)).any (·.1) = false := by rfl) : PS X (.Raise (some (.Call (.Name x p) [e] [] pos)) none pos') (tRE C f i W) := by
  obtain ⟨fI, fd, T, iC, tI, F1, hm, hb, _, hno⟩ := B.ex
  refine ⟨fun pins s σ H D I h => ?_⟩
  obtain ⟨v, hv, k⟩ := h
  exact (ps_raise hc tk (pmk_oex T iC tI F1 hr hb .nil pass0 hg hm (pa_cons he pa_nil (hs := hst)) hdb hst hpl)).run pins s σ H D I ⟨v, hv, (by show 1 ≤ 1000; decide), fun a ha => init_read (v := v) (Q := fun cls d H' => W cls d σ H') T hno ha k⟩
theorem ps_rK (B : Xf X.prog X.w X.K X.mg X.base x C f) (hr : Room 2 X.A) (tk : Takes X W) (he : PE X e (tVar i)) (hc : X.calm = true := by rfl) (hg : Gl X x := by rfl) (hdb : (x == ("__debug__" : Str)) = false := by decide)
    (hall : (backToKw pos (keywordEach [⟨some f, e, kpos⟩] X.env)).all (·.1.isSome) = true := by rfl) (hks : (backToKw pos (keywordEach [⟨some f, e, kpos⟩] X.env)).filterMap (·.1) = [f] := by rfl)
    (hpl : ((backTo pos (starEach [] X.env)).any (·.1) || (backToKw pos (keywordEach [⟨some f, e, kpos⟩] X.env)).any (·.1.isNone)) = false := by rfl) : PS X (.Raise (some (.Call (.Name x p) [] [⟨some f, e, kpos⟩] pos)) none pos') (tRE C f i W) := by
  obtain ⟨fI, fd, T, iC, tI, F1, hm, _, hb, hno⟩ := B.ex
  refine ⟨fun pins s σ H D I h => ?_⟩
  obtain ⟨v, hv, k⟩ := h
  exact (ps_raise hc tk (pmk_oexK T iC tI F1 hr hb pass0 hm (pk_cons he pk_nil) hg hall hks hdb hpl)).run pins s σ H D I ⟨v, hv, rfl, fun a ha => init_read (v := v) (Q := fun cls d H' => W cls d σ H') T hno ha k⟩
theorem ps_r0 (B : X0 X.K X.mg x C) (tk : Takes X W) (hc : X.calm = true := by rfl) (hg : Gl X x := by rfl) (hdb : (x == ("__debug__" : Str)) = false := by decide) : PS X (.Raise (some (.Call (.Name x p) [] [] pos)) none pos') (fun _ σ H => W (.ref C) none σ H) := by
  obtain ⟨bmB, N, newId, initId, F, q, gC, kC, e1, e2⟩ := B.ex
  exact ps_raise hc tk (pmk_own0 F q gC kC (raises_own e1 e2) hg hdb)
/-- a def that may raise -/
structure DfX (P : Program) (w : World) (K : PySem.W.Frag) (mg : Str → Option Value) (base : Heap) (x : Str) (k : Nat) (ps : List Str) (sp : Sp) : Prop where
  ex : ∃ (f : Addr) (fd : FuncData), FnOk P w K mg base (L2.CX P w) k f fd ps sp ∧ mg x = some (.ref f) ∧ PySem.W.keepIn K (.ref f) = true ∧ Binds K fd ps []
theorem pe_dX {pn : List (Addr × Obj)} {xe : Value → Shared → Prop} {es : List Expr} {t : TA} {k : Nat} {ps : List Str} {sp : Sp} (D : DfX X.prog X.w X.K X.mg X.base x k ps sp) (hr : Room k X.A) (tk : Takes (X.tr pn xe) W) (ha : PA (X.tr pn xe) (e :: es) t) (hg : Gl X x := by rfl) (hdb : (x == ("__debug__" : Str)) = false := by decide)
    (he : starEach (e :: es) X.env = (false, eval e X.env) :: starEach es X.env := by rfl) (hpl : (backTo pos (starEach es X.env)).any (·.1) = false := by rfl) : PE (X.tr pn xe) (.Call (.Name x p) (e :: es) [] pos) (tCallS sp (WE W) t) := by
  obtain ⟨f, fd, F, hm, hk, hb⟩ := D.ex
  exact pe_callS F hr hg hm hk hb (fun σ => passAt tk σ) ha hdb he hpl
end
section
variable {X : Cx} {K : PySem.W.Frag}
/-! ### readings that name the part alone -/
theorem peK {e : Expr} {T : String} {r : V → List V → Hp → VK → Prop} {to : TE} {t : TA} (h : PE X e (tBM X.K T r to t)) (hK : X.K = K := by rfl) : PE X e (tBM K T r to t) := by
  subst hK
  exact h
theorem opK_in (hK : X.K = K := by rfl) : OpR X (compareOp .In) (rIn K false) := by
  subst hK
  exact op_in_seq
theorem call_isK {a : Addr} {cls : Value} {d : Option Addr} {oe : Obj} {pn : List (Addr × Obj)} (hz : Zc cls d oe) (hf : ∃ vs, oe.data = .fields vs) (hK : X.K = K := by rfl) : CallR (X.suite a ((a, oe) :: pn)) (.builtin "isinstance") (rIsF K a cls d) := by
  subst hK
  exact call_isF hz hf
theorem pe_xk {a : Addr} {oe : Obj} {cls : Value} {d : Option Addr} {pn : List (Addr × Obj)} {e : Expr} {te : TE} {pos : Pos} {n : Str} (hz : Zc cls d oe) (hf : ∃ vs, oe.data = .fields vs) (he : PE (X.suite a ((a, oe) :: pn)) e te)
    (hb : attributeBase e n X.env (eval e X.env) = eval e X.env := by rfl) (hK : X.K = K := by rfl) : PE (X.suite a ((a, oe) :: pn)) (.Attribute e n pos) (tXg K a cls d n te) := by
  subst hK
  exact pe_xg hz hf he hb
end
end Fm

/-! ## FmCall -/
set_option Elab.async false
set_option maxRecDepth 100000
set_option maxHeartbeats 4000000
/-! Calls of what may raise: a def, a method, a class by its __init__; the way out is told of the slots of the caller. -/
namespace Fm
open PySem PySem.Spec PyProof.Rows L2
structure DmX (P : Program) (w : World) (K : PySem.W.Frag) (mg : Str → Option Value) (base : Heap) (C : Addr) (m : Str) (k : Nat) (ps : List Str) (sp : Sp) : Prop where
  ex : ∃ (f : Addr) (fd : FuncData), FnOk P w K mg base (L2.CX P w) k f fd ps sp ∧ Meth K C m f ∧ Binds K fd ps []
structure DcX (P : Program) (w : World) (K : PySem.W.Frag) (mg : Str → Option Value) (base : Heap) (x : Str) (C : Addr) (k : Nat) (ps : List Str) (sp : Sp) : Prop where
  ex : ∃ (f : Addr) (fd : FuncData), FnOk P w K mg base (L2.CX P w) k f fd ps sp ∧ mg x = some (.ref C) ∧ Mk K C f ∧ Binds K fd ps []
def tMethX (C : Addr) (m : Str) (sp : Sp) (W : WX) (ta : TE) (t : TA) : TE := fun σ H Q => ta σ H fun x H1 => ∃ a dx fs, x = .ref a ∧ H1 a = some (.ins C dx fs) ∧ fs.lookup m = none ∧ t σ H1 fun vs H2 => sp (.ref a :: vs) H2 Q (WE W σ)
def tMakeX (C : Addr) (sp : Sp) (W : WX) (t : TA) : TE := fun σ H Q => t σ H fun vs H1 => ∀ x dx, H1 x = none → H1 dx = none → dx ≠ x → sp (.ref x :: vs) (upd (upd H1 dx (.own x)) x (.ins C dx [])) (fun v H2 => v = .non ∧ Q (.ref x) H2) (WE W σ)
section
variable {X : Cx} {k : Nat} {ps : List Str} {sp : Sp} {x m : Str} {e o : Expr} {es : List Expr} {t : TA} {to : TE} {C f : Addr} {fd : FuncData} {p apos pos : Pos} {W : WX}
theorem pe_dE (D : DfX X.prog X.w X.K X.mg X.base x k ps sp) (hr : Room k X.A) (tk : Takes X W) (ha : PA X (e :: es) t) (hg : Gl X x := by rfl) (hdb : (x == ("__debug__" : Str)) = false := by decide)
    (he : starEach (e :: es) X.env = (false, eval e X.env) :: starEach es X.env := by rfl) (hpl : (backTo pos (starEach es X.env)).any (·.1) = false := by rfl) : PE X (.Call (.Name x p) (e :: es) [] pos) (tCallS sp (WE W) t) := by
  obtain ⟨f, fd, F, hm, hk, hb⟩ := D.ex
  exact pe_callS F hr hg hm hk hb (fun σ => passAt tk σ) ha hdb he hpl
theorem pe_dmE {pl : Sem Bool} (he : PE X o to) (c : Cls X.K C) (D : DmX X.prog X.w X.K X.mg X.base C m k ps sp) (hr : Room k X.A) (tk : Takes X W) (ha : PA X (e :: es) t)
    (hst : starEach (e :: es) X.env = (false, eval e X.env) :: starEach es X.env := by rfl) (hpl : (backTo pos (starEach es X.env)).any (·.1) = false := by rfl)
    (ht : eval (.Call (.Attribute o m apos) (e :: es) [] pos) X.env = (do
      let ov ← eval o X.env
      standAt apos.atName
      let (f, first) ← holding [ov] (getMethod ov m pl)
      callWith pos f first (backTo pos (starEach (e :: es) X.env)) (backToKw pos (keywordEach [] X.env))) := by rfl) : PE X (.Call (.Attribute o m apos) (e :: es) [] pos) (tMethX C m sp W to t) := by
  obtain ⟨f, fd, F, hm, hb⟩ := D.ex
  refine ⟨fun pins s σ H Q I h => ?_⟩
  refine PySem.W.methodCall_KW (pl := pl) (thn (he.run pins s σ H _ I h) fun u s1 ⟨x, H1, I1, rx, a, dx, fs, ex, ea, l, q⟩ => ?_) ht
  subst ex
  cases (show u = Value.ref a from rx)
  refine getmeth_ok I1 ea c hm l (PySem.W.callWith_K (first := [.ref a]) (h₀ := X.base) I.ok.mod.kin hm.kp (thn (ha.run pos pins s1 σ H1 _ I1 q) fun us s2 ⟨vs, H2, I2, r, q2⟩ => ⟨I2.kIn, ?_⟩) hst hpl)
  exact run_fnS (E := WE W) (us := .ref a :: us) (vs := .ref a :: vs) F hr hb (passAt tk σ) I2 (.cons rfl r) q2
theorem pe_dcE (D : DcX X.prog X.w X.K X.mg X.base x C k ps sp) (hr : Room (k + 1) X.A) (tk : Takes X W) (ha : PA X (e :: es) t) (hg : Gl X x := by rfl) (hdb : (x == ("__debug__" : Str)) = false := by decide)
    (he : starEach (e :: es) X.env = (false, eval e X.env) :: starEach es X.env := by rfl) (hpl : (backTo pos (starEach es X.env)).any (·.1) = false := by rfl) : PE X (.Call (.Name x p) (e :: es) [] pos) (tMakeX C sp W t) := by
  obtain ⟨f, fd, F, hm, M, hb⟩ := D.ex
  refine ⟨fun pins s0 σ H0 Q I0 h0 => ?_⟩
  refine wpAny_Call_Name_kw (ld_glob I0 hg hm ?_ hdb)
  refine PySem.W.callWith_K (h₀ := X.base) I0.ok.mod.kin M.kp (thn (ha.run pos pins s0 σ H0 _ I0 h0) fun us s ⟨vs, H, I, r, h⟩ => ⟨I.kIn, ?_⟩) he hpl
  show wpAny _ _ (call (.ref C) us) _ _ _
  have hq := h (s.heap.objs.size + 1) s.heap.objs.size (I.hok.fresh (Nat.le_succ _)) (I.hok.fresh (Nat.le_refl _)) (Nat.ne_of_lt (Nat.lt_succ_self _))
  have I2 := Inv.made (C := C) I
  have r2 : Vals (V.ref (s.heap.objs.size + 1) :: vs) (Value.ref (s.heap.objs.size + 1) :: us) := .cons rfl r
  have hl : (Value.ref (s.heap.objs.size + 1) :: us).length = ps.length := by
    have e := r2.length
    rw [F.len _ _ _ _ hq] at e
    exact e.symm
  have b := hb _ (Value.ref (s.heap.objs.size + 1) :: us) I2.kIn (by rw [List.append_nil]; exact hl)
  rw [List.append_nil] at b
  refine wpAny_call (make_map (f := f) I.kIn M.makes M.init (beq_iff_eq.mp M.fn) (codeAny_mono (F.run _ X.stack _ _ ⟨Value.ref (s.heap.objs.size + 1) :: us, []⟩ (Value.ref (s.heap.objs.size + 1) :: us) _ _ (WE W σ) (hr.make C us []) (I2.env0.make C us []) b r2 hq) fun r s' hq' => ?_))
  cases r with
  | error e => exact passAt tk σ pins _ _ e s' I2 hq'
  | ok fl =>
    cases fl with
    | ret u =>
      obtain ⟨v, H', I3, rv, ev, q3⟩ := I2.after hq'
      subst ev
      exact ⟨rv, ⟨V.ref (s.heap.objs.size + 1), H', I3, rfl, q3⟩⟩
    | next => exact False.elim hq'
    | brk => exact False.elim hq'
    | cont => exact False.elim hq'
end
section
variable {X : Cx} {W : WX} {x f : Str} {C : Addr} {e : Expr} {te : TE} {p pos pos' : Pos}
theorem Xf.oex {P : Program} {w : World} {K : PySem.W.Frag} {mg : Str → Option Value} {base : Heap} (B : Xf P w K mg base x C f) : OexC K C ∧ PySem.W.findIn K (.ref C) f = some none := by
  obtain ⟨_, _, T, _, _, _, _, _, _, hno⟩ := B.ex
  exact ⟨T, hno⟩
/-- raise X(e) -/
theorem ps_rG (B : Xf X.prog X.w X.K X.mg X.base x C f) (hr : Room 2 X.A) (tk : Takes X W) (he : PE X e te) (hc : X.calm = true := by rfl) (hg : Gl X x := by rfl) (hdb : (x == ("__debug__" : Str)) = false := by decide)
    (hst : starEach [e] X.env = (false, eval e X.env) :: starEach [] X.env := by rfl) (hpl : (backTo pos (starEach [] X.env)).any (·.1) = false := by rfl) :
    PS X (.Raise (some (.Call (.Name x p) [e] [] pos)) none pos') (fun _ σ H => tMkO C (spIn X.K f) [] (tCons te tNil) σ H fun cls d H' => W cls d σ H') := by
  obtain ⟨fI, fd, T, iC, tI, F1, hm, hb, _, hno⟩ := B.ex
  exact ps_raise hc tk (pmk_oex T iC tI F1 hr hb .nil pass0 hg hm (pa_cons he pa_nil (hs := hst)) hdb hst hpl)
end
theorem pe_fldK {X : Cx} {K : PySem.W.Frag} {e : Expr} {ta : TE} {f : Str} {pos : Pos} (he : PE X e ta) (hb : attributeBase e f X.env (eval e X.env) = eval e X.env := by rfl) (hK : X.K = K := by rfl) : PE X (.Attribute e f pos) (tFld K ta f) := by
  subst hK
  exact pe_fld he hb
end Fm

/-! ## K32A -/
set_option Elab.async false
set_option maxRecDepth 100000
set_option maxHeartbeats 4000000
namespace Fm
open PySem L2
def topS (i : Nat) : Stmt := PySem.Challenge.pw_firstmet_k32_group_map.main.body.getD i (.Pass ⟨0, 0, 0, 0⟩)
/-- what the top has left of names -/
structure Txt (K : PySem.W.Frag) (mg : Str → Option Value) (CS : Addr) : Prop where
  n_len : mg "len" = none
  n_list : mg "list" = none
  n_tuple : mg "tuple" = none
  n_isinstance : mg "isinstance" = none
  n_str : mg "str" = none
  n_dict : mg "dict" = none
  n_bool : mg "bool" = none
  n_int : mg "int" = none
  n_max : mg "max" = none
  n_all : mg "all" = none
  n_set : mg "set" = none
  n_range : mg "range" = none
  n_enumerate : mg "enumerate" = none
  n_min : mg "min" = none
  n_sum : mg "sum" = none
  n_zip : mg "zip" = none
  n_sorted : mg "sorted" = none
  g_MOST_PATTERN_ROWS : ∃ t, mg "MOST_PATTERN_ROWS" = some (.int 6 t)
  g_MOST_SYMBOLS : ∃ t, mg "MOST_SYMBOLS" = some (.int 4 t)
  g_LONGEST_GROUP : ∃ t, mg "LONGEST_GROUP" = some (.int 3 t)
  g_LARGEST_POWER : ∃ t, mg "LARGEST_POWER" = some (.int 100 t)
  g_LETTERS : ∃ t, mg "LETTERS" = some (.str "abcdefghijklmnopqrstuvwxyz" t)
  g_LONGEST_NAME : ∃ t, mg "LONGEST_NAME" = some (.int 8 t)
  g_LARGEST_VALUE : ∃ t, mg "LARGEST_VALUE" = some (.int 1000000000 t)
  c_get : PySem.W.specialIn K (.builtin "object.__class__") "__get__" = some (some (.builtin "getset_descriptor.__get__"))
  c_tak : PySem.W.takesIn K (.builtin "object.__class__") = some true
section
variable {P : Program} {w : World} {K : PySem.W.Frag} {mg : Str → Option Value} {base : Heap} {CS : Addr}
abbrev s_l_pick : Stmt := topS 34
abbrev sc_l_pickN : List Str := ["_law_bag_here", "_law_many", "_law_cell", "_law_found", "_law_one"]
abbrev ps_l_pick : List Str := ["_law_bag_here", "_law_many"]
theorem sc_l_pick : FnScope sc_l_pickN ps_l_pick (defScope s_l_pick) := ⟨rfl, rfl, rfl, by decide +kernel, rfl, by decide +kernel, by decide +kernel⟩
theorem ok_l_pick {f : Addr} {fd : FuncData} (F : Fun K "_law_pick" "_law_pick" s_l_pick f fd) (T : Txt K mg CS) : FnOk P w K mg base CX0 1 f fd ps_l_pick spPick := by
  refine F.ok sc_l_pick (fun vs H Q E h => ?_) (fun cdv A outer s H vs Q E hr h => ?_)
  · obtain ⟨_, _, _, rfl, _⟩ := h
    rfl
  · obtain ⟨F0, b, m, rfl, m0, m1, ⟨hs, hfb, cl, ns, p, g, z, c, hh, hcl0, hcb, hcl, hb, p0, g0, z0, z1⟩, k⟩ := h
    have fin : ∀ (r p' g' z' c' h' : Int) (H' : Hp), 0 ≤ r → r < m → 0 ≤ p' → 0 ≤ g' → 0 ≤ z' → z' < 2147483647 → (∀ a, a ≠ b → H' a = H a) → H' b = some (.lst [.ref cl, .int p', .int g', .int z', .int c', .int h']) → Q (.int r) H' :=
      fun r p' g' z' c' h' H' r0 r1 q0 q1 q2 q3 ho hb' => k r H' r0 r1 ⟨fun a o e => by
        have n : a ≠ b := fun q => by rw [q, hfb] at e; cases e
        rw [ho a n]; exact hs a o e, hfb, cl, ns, p', g', z', c', h', hcl0, hcb, by rw [ho cl hcb]; exact hcl, hb', q0, q1, q2, q3⟩
    refine ⟨_, (pss_cons (ps_asg (pe_op op_add (pe_ix ix_list (pv 0) pe_int (fun _ _ => rfl)) pe_int) (pg_sub (pv 0) pe_int set_list))
  (Evl.pss_cut (ps_if (PW.pt (pw_and (pt_cmpR op_eq (pe_ix ix_list (pv 0) pe_int (fun _ _ => rfl)) pe_int (nomark _)) (pw_and (pt_cmpR op_eq (pe_ix ix_list (pv 0) pe_int (fun _ _ => rfl)) pe_int (nomark _)) (pw_and1 (pt_cmpR op_lt (pe_ix ix_list (pv 0) pe_int (fun _ _ => rfl)) (pe_callB call_len_seq (by rfl) T.n_len (by decide +kernel) (pa_cons (pe_ix ix_list (pv 0) pe_int (fun _ _ => rfl)) pa_nil)) (nomark _))))))
    (pss_cons (ps_set (i := 2) sc_l_pick.nd rfl (Or.inl rfl) (pe_ix ix_list (pe_ix ix_list (pv 0) pe_int (fun _ _ => rfl)) (pe_ix ix_list (pv 0) pe_int (fun _ _ => rfl)) (fun _ _ => rfl)))
    (pss_cons (ps_asg (pe_op op_add (pe_ix ix_list (pv 0) pe_int (fun _ _ => rfl)) pe_int) (pg_sub (pv 0) pe_int set_list))
    (pss_one (ps_if (pt_cmpR op_ge (pv 2) (pe_op op_pow pe_int pe_int) (nomark _))
      (pss_one (ps_asg (pv 2) (pg_sub (pv 0) pe_int set_list)))
      (pss_cons (ps_asg (pe_op op_modN (pe_callTy call_int1 (by rfl) T.n_int (by decide +kernel) (pa_cons (pe_op op_add (pe_op op_add (pe_op op_mul (pe_ix ix_list (pv 0) pe_int (fun _ _ => rfl)) pe_int) (pv 2)) pe_int) pa_nil)) pe_int) (pg_sub (pv 0) pe_int set_list))
      (pss_one (ps_asg pe_int (pg_sub (pv 0) pe_int set_list))))))))
    pss_nil)
  (pss_cons (ps_if (pt_cmpR op_gt (pe_ix ix_list (pv 0) pe_int (fun _ _ => rfl)) pe_int (nomark _))
    (pss_cons (ps_set (i := 3) sc_l_pick.nd rfl (Or.inl rfl) (pe_op op_modN (pe_callTy call_int1 (by rfl) T.n_int (by decide +kernel) (pa_cons (pe_ix ix_list (pv 0) pe_int (fun _ _ => rfl)) pa_nil)) (pv 1)))
    (pss_cons (ps_asg (pe_op op_fdivN (pe_ix ix_list (pv 0) pe_int (fun _ _ => rfl)) (pv 1)) (pg_sub (pv 0) pe_int set_list))
    (pss_one (ps_ret (pv 3)))))
    pss_nil)
  (pss_cons (ps_asg (pe_callB (call_max2 (by rfl)) (by rfl) T.n_max (by decide +kernel) (pa_cons pe_int (pa_cons (pe_op op_sub (pe_ix ix_list (pv 0) pe_int (fun _ _ => rfl)) pe_int) pa_nil))) (pg_sub (pv 0) pe_int set_list))
  (pss_cons (ps_set (i := 4) sc_l_pick.nd rfl (Or.inl rfl) (pe_op op_modN (pe_callTy call_int1 (by rfl) T.n_int (by decide +kernel) (pa_cons (pe_op op_mul (pe_op op_add (pe_op op_add (pe_ix ix_list (pv 0) pe_int (fun _ _ => rfl)) (pe_op op_mul pe_int (pe_ix ix_list (pv 0) pe_int (fun _ _ => rfl)))) pe_int) pe_int) pa_nil)) pe_int))
  (pss_cons (ps_set (i := 4) sc_l_pick.nd rfl (Or.inl rfl) (pe_op op_modN (pe_callTy call_int1 (by rfl) T.n_int (by decide +kernel) (pa_cons (pe_op op_mul (pv 4) (pe_op op_add (pe_op op_fdivN (pv 4) pe_int) pe_int)) pa_nil)) pe_int))
  (pss_cons (ps_set (i := 4) sc_l_pick.nd rfl (Or.inl rfl) (pe_op op_modN (pe_callTy call_int1 (by rfl) T.n_int (by decide +kernel) (pa_cons (pe_op op_mul (pv 4) (pe_op op_add (pe_op op_fdivN (pv 4) pe_int) pe_int)) pa_nil)) pe_int))
  (pss_one (ps_ret (pe_op op_modN (pe_callTy call_int1 (by rfl) T.n_int (by decide +kernel) (pa_cons (pe_op op_fdivN (pv 4) pe_int) pa_nil)) (pv 1))))))))))), ?_⟩
    have nzM : (2147483647 : Int) ≠ 0 := by decide
    have nzM2 : (2147483399 : Int) ≠ 0 := by decide
    -- one more asked
    refine ⟨_, rfl, b, _, _, _, rfl, rfl, .inl (.inl hb), rfl, _, _, rfl, rfl, _, rfl, b, _, _, _, rfl, rfl, hb, rfl, ?_⟩
    -- a new cell
    refine ⟨fun σ' H' => ∃ (p' g' z' h' : Int) (v : Option V), σ' = [some (.ref b), some (.int m), v, none, none] ∧ 0 ≤ p' ∧ 0 ≤ g' ∧ 0 ≤ z' ∧ z' < 2147483647 ∧ (∀ a, a ≠ b → H' a = H a) ∧
      H' b = some (.lst [.ref cl, .int p', .int g', .int z', .int (c + 1), .int h']), ?_, ?_⟩
    · have stay : ∀ a, a ≠ b → (upd H b (.lst [.ref cl, .int p, .int g, .int z, .int (c + 1), .int hh])) a = H a := fun a n => upd_ne n
      refine ⟨_, rfl, b, _, _, _, rfl, rfl, .inl (.inl upd_same), rfl, rfl, _, rfl, ifd (fun _ => ?_) fun _ => iteF ⟨p, g, z, hh, _, rfl, p0, g0, z0, z1, stay, upd_same⟩⟩
      refine ⟨_, rfl, b, _, _, _, rfl, rfl, .inl (.inl upd_same), rfl, rfl, _, rfl, ifd (fun _ => ?_) fun _ => iteF ⟨p, g, z, hh, _, rfl, p0, g0, z0, z1, stay, upd_same⟩⟩
      refine ⟨_, rfl, b, _, _, _, rfl, rfl, .inl (.inl upd_same), rfl, _, rfl, b, _, _, _, rfl, rfl, .inl (.inl upd_same), rfl, cl, _, rfl, .inl (.inl (.inl (by rw [upd_ne hcb]; exact hcl))), _, _, rfl, rfl, _, rfl, ifd (fun hlt => ?_) fun _ => ⟨p, g, z, hh, _, rfl, p0, g0, z0, z1, stay, upd_same⟩⟩
      rw [List.length_map] at hlt
      obtain ⟨n, rfl⟩ : ∃ n : Nat, p = (n : Int) := ⟨p.toNat, by omega⟩
      obtain ⟨u, hu⟩ : ∃ u, ns[n]? = some u := ⟨_, List.getElem?_eq_getElem (by omega)⟩
      refine ⟨_, rfl, b, _, _, _, rfl, rfl, .inl (.inl upd_same), rfl, _, rfl, b, _, _, _, rfl, rfl, .inl (.inl upd_same), rfl, cl, _, _, _, rfl, rfl, .inl (.inl (by rw [upd_ne hcb]; exact hcl)), atI_nat (by rw [List.getElem?_map, hu]; rfl), ?_⟩
      refine ⟨_, rfl, b, _, _, _, rfl, rfl, .inl (.inl upd_same), rfl, _, _, rfl, rfl, _, rfl, b, _, _, _, rfl, rfl, upd_same, rfl, ?_⟩
      refine ⟨_, rfl, _, _, rfl, rfl, ⟨by decide, by decide, by decide⟩, _, _, rfl, rfl, _, rfl, ifd (fun hge => ?_) fun _ => ?_⟩
      · refine ⟨_, rfl, _, rfl, b, _, _, _, rfl, rfl, upd_same, rfl, ?_⟩
        have hge' : (10 : Int) ^ 18 ≤ u := hge
        exact ⟨(n : Int) + 1, u, z, hh, _, rfl, by omega, by omega, z0, z1, fun a n => by rw [upd_ne n, upd_ne n, upd_ne n], upd_same⟩
      · refine ⟨_, rfl, b, _, _, _, rfl, rfl, .inl (.inl upd_same), rfl, _, _, rfl, rfl, .inl ⟨by omega, by omega⟩, _, rfl, _, _, rfl, rfl, _, _, rfl, rfl, .inl ⟨_, rfl, _, _, rfl, rfl, nzM, _, rfl, b, _, _, _, rfl, rfl, upd_same, rfl, ?_⟩⟩
        refine ⟨_, rfl, b, _, _, _, rfl, rfl, upd_same, rfl, ?_⟩
        exact ⟨(n : Int) + 1, g, _, 6, _, rfl, by omega, g0, fmod_lo (by decide), fmod_hi (by decide), fun a n => by rw [upd_ne n, upd_ne n, upd_ne n, upd_ne n], upd_same⟩
    · rintro σ' H' ⟨p', g', z', h', v, rfl, p0', g0', z0', z1', ho, hb'⟩
      refine ⟨_, rfl, b, _, _, _, rfl, rfl, .inl (.inl hb'), rfl, _, _, rfl, rfl, _, rfl, ifd (fun hg => ?_) fun _ => ?_⟩
      · refine ⟨_, rfl, b, _, _, _, rfl, rfl, .inl (.inl hb'), rfl, .inl ⟨_, rfl, _, rfl, _, _, rfl, rfl, Int.ne_of_gt m0, ?_⟩⟩
        refine ⟨_, rfl, b, _, _, _, rfl, rfl, .inl (.inl hb'), rfl, _, rfl, _, _, rfl, rfl, ⟨Int.ne_of_gt m0, by omega⟩, _, rfl, b, _, _, _, rfl, rfl, hb', rfl, ?_⟩
        refine ⟨_, rfl, ?_⟩
        exact fin _ p' _ z' _ h' _ (fmod_lo m0) (fmod_hi m0) p0' (fdiv_lo g0' m0) z0' z1' (fun a n => by rw [upd_ne n]; exact ho a n) upd_same
      · refine ⟨_, rfl, b, _, _, _, rfl, rfl, .inl (.inl hb'), rfl, _, _, rfl, rfl, _, _, rfl, _, rfl, b, _, _, _, rfl, rfl, hb', rfl, ?_⟩
        refine ⟨_, rfl, b, _, _, _, rfl, rfl, .inl (.inl upd_same), rfl, _, rfl, b, _, _, _, rfl, rfl, .inl (.inl upd_same), rfl, _, _, rfl, rfl, .inl ⟨by decide, by decide⟩, _, _, rfl, rfl, _, _, rfl, rfl, _, _, rfl, rfl, .inr ⟨by decide, by decide⟩, .inl ⟨_, rfl, _, _, rfl, rfl, nzM, ?_⟩⟩
        refine ⟨_, rfl, _, rfl, _, _, rfl, rfl, ⟨by decide, by decide⟩, _, _, rfl, rfl, _, _, rfl, rfl, .inl (fmod64 _ (by decide) (by decide)), .inl ⟨_, rfl, _, _, rfl, rfl, nzM, ?_⟩⟩
        refine ⟨_, rfl, _, rfl, _, _, rfl, rfl, ⟨by decide, by decide⟩, _, _, rfl, rfl, _, _, rfl, rfl, .inl (fmod64 _ (by decide) (by decide)), .inl ⟨_, rfl, _, _, rfl, rfl, nzM2, ?_⟩⟩
        refine ⟨_, rfl, _, _, rfl, rfl, ⟨by decide, by decide⟩, .inl ⟨_, rfl, _, rfl, _, _, rfl, rfl, Int.ne_of_gt m0, ?_⟩⟩
        exact fin _ p' g' z' _ _ _ (fmod_lo m0) (fmod_hi m0) p0' g0' z0' z1' (fun a n => by rw [upd_ne n]; exact ho a n) upd_same
end
end Fm

/-! ## K32B -/
set_option Elab.async false
set_option maxRecDepth 100000
set_option maxHeartbeats 4000000
namespace Fm
open PySem L2
/-- a list or a tuple that stands at a -/
def Sq (K : PySem.W.Frag) (H : Hp) (a : Addr) (xs : List V) : Prop := SqL K H a xs ∨ SqT K H a xs
theorem Sq.same {K : PySem.W.Frag} {H H' : Hp} {a : Addr} {xs : List V} (h : Sq K H a xs) (e : Same H H') : Sq K H' a xs := h.elim (fun h => .inl (e.seq h)) fun h => .inr (same_sqT e h)
theorem seq_ty {K : PySem.W.Frag} {H : Hp} {a : Addr} {xs : List V} (h : Sq K H a xs) : ∃ n, TyX K H (.ref a) (.type n) ∧ PySem.W.kitAny K (.type n) [.type "list", .type "tuple"] = some true ∧ PySem.W.kitOne K (.type n) (.type "str") = some false := by
  have yes : PySem.W.kitAny K (.type "list") [.type "list", .type "tuple"] = some true := kitAny_cons (b := true) (kit_ty (by decide +kernel)) (fun z => nomatch z) fun _ => rfl
  have no : PySem.W.kitAny K (.type "tuple") [.type "list", .type "tuple"] = some true := kitAny_cons (b := false) (kit_ty (by decide +kernel)) (fun _ => kitAny_cons (b := true) (kit_ty (by decide +kernel)) (fun z => nomatch z) fun _ => rfl) fun z => nomatch z
  have k1 : PySem.W.kitOne K (.type "list") (.type "str") = some false := kit_ty (by decide +kernel)
  have k2 : PySem.W.kitOne K (.type "tuple") (.type "str") = some false := kit_ty (by decide +kernel)
  rcases h with ((h | ⟨o, h⟩) | ⟨o, its, n, h, hc, _⟩) | ((h | ⟨o, h⟩) | ⟨o, its, n, h, hc, _⟩)
  · exact ⟨_, .base (.lst h), yes, k1⟩
  · exact ⟨_, .base (.frz h), yes, k1⟩
  · exact ⟨_, .kList h hc, yes, k1⟩
  · exact ⟨_, .base (.tup h), no, k2⟩
  · exact ⟨_, .fTuple h, no, k2⟩
  · exact ⟨_, .kTuple h hc, no, k2⟩
theorem tup_ty {K : PySem.W.Frag} {H : Hp} {a : Addr} {xs : List V} (h : SqT K H a xs) : ∃ n, TyX K H (.ref a) (.type n) ∧ PySem.W.kitOne K (.type n) (.type "tuple") = some true := by
  have k : PySem.W.kitOne K (.type "tuple") (.type "tuple") = some true := kit_ty (by decide +kernel)
  rcases h with (h | ⟨o, h⟩) | ⟨o, its, n, h, hc, _⟩
  · exact ⟨_, .base (.tup h), k⟩
  · exact ⟨_, .fTuple h, k⟩
  · exact ⟨_, .kTuple h hc, k⟩
theorem clsLT : Paired ClsV [V.ty "list", V.ty "tuple"] [Value.type "list", Value.type "tuple"] := .cons (.ty _) (.cons (.ty _) .nil)
section
variable {P : Program} {w : World} {K : PySem.W.Frag} {mg : Str → Option Value} {base : Heap} {CS : Addr}
def spIsName (K : PySem.W.Frag) : Sp := fun vs H Q _ => ∃ (v : V) (r : Bool), vs = [v] ∧ ((∃ s : Str, v = .str s ∧ s.length ≤ 100000 ∧ r = isNm s) ∨ ∃ n, TyX K H v (.type n) ∧ kitB n "str" = some false ∧ r = false) ∧ ∀ H', Same H H' → Q (.bl r) H'
abbrev s_is_name : Stmt := topS 6
abbrev sc_is_nameN : List Str := ["thing", "sign"]
abbrev ps_is_name : List Str := ["thing"]
theorem sc_is_name : FnScope sc_is_nameN ps_is_name (defScope s_is_name) := ⟨rfl, rfl, rfl, by decide +kernel, rfl, by decide +kernel, by decide +kernel⟩
theorem ok_is_name {f : Addr} {fd : FuncData} (F : Fun K "is_name" "is_name" s_is_name f fd) (T : Txt K mg CS) : FnOk P w K mg base CX0 1 f fd ps_is_name (spIsName K) := by
  refine F.ok sc_is_name (fun vs H Q E h => ?_) (fun cdv A outer s H vs Q E hr h => ?_)
  · obtain ⟨_, _, rfl, _⟩ := h
    rfl
  · obtain ⟨v, r, rfl, h, k⟩ := h
    refine ⟨_, (pss_cons (ps_if (PW.pt (pw_or (pt_not (pt_val (pe_callB call_isi (by rfl) T.n_isinstance (by decide +kernel) (pa_cons (pv 0) (pa_cons (pe_bltn (v := .ty "str") (by rfl) T.n_str (by decide +kernel) rfl) pa_nil))))) (pw_or1 (pt_not (pt_chain op_le op_le pe_int (pe_callB call_len_str (by rfl) T.n_len (by decide +kernel) (pa_cons (pv 0) pa_nil)) (pe_gI T.g_LONGEST_NAME))))))
    (pss_one (ps_ret pe_bl))
    pss_nil)
  (pss_one (ps_ret (pe_callB (cr_all (by rfl)) (by rfl) T.n_all (by decide +kernel) (pa_cons (pe_lc (own := [("sign", 1)]) (g := gName 1) (tt := tYes) (by rfl) sc_is_name.nd (pi_str (pv 0)) (blkOk_by (own := [("sign", 1)]) (N := sc_is_nameN) (sc := defScope s_is_name) (by decide +kernel)) (fun _ _ _ _ _ => pg_name (i := 1) sc_is_name.nd rfl (Or.inl rfl)) (fun _ _ _ _ _ => pts_nil) (fun _ _ _ _ _ => (pe_cmpR op_in_sign (pv 1) (pe_gS T.g_LETTERS) (by rfl)))) pa_nil))))), ?_⟩
    rcases h with ⟨z, rfl, hz, rfl⟩ | ⟨n, ty, hk, rfl⟩
    · have hz' : z.length ≤ sizeLine := Nat.le_trans hz (by decide)
      refine ⟨_, rfl, _, _, _, _, _, rfl, .ty _, .base (.str _), kit_ty (b := "str") (r := true) (by decide +kernel), _, rfl, iteF ?_⟩
      have len : z.cps.toList.length ≤ 100000 := by
        have q : z.cps.toList.length = z.length := by simp [Str.length]
        rw [q]
        exact hz
      have short : ∀ H', Same H H' → (1 ≤ z.length ∧ z.length ≤ 8 → False) → Q (.bl false) H' := fun H' e n => by
        have q := k H' e
        have r0 : isNm z = false := by
          unfold isNm
          rw [← Bool.decide_and, decide_eq_false n]
          rfl
        rw [r0] at q
        exact q
      refine ⟨_, rfl, _, rfl, hz', _, _, rfl, rfl, _, rfl, ifd (fun h1 => ?_) fun h1 => ?_⟩
      · refine ⟨_, _, rfl, rfl, _, rfl, ifn (fun h2 => ?_) fun h2 => ?_⟩
        · exact short _ (Same.refl _) fun q => h2 (by omega)
        · refine ⟨_, rfl, _, rfl, fun D hD => ?_⟩
          refine lc_it (walk_str (z := z)) (fun i H' => Same H H' ∧ H' D = some (.lst ((z.cps.toList.take i).map fun c => V.bl (decide (c ∈ letters.cps.toList)))))
            ⟨same_new _ hD, by rw [upd_same]; rfl⟩ (fun _ _ _ _ => trivial) ?_ ?_
          · rintro i x H1 H2 hi ⟨s1, d1⟩ ⟨rfl, c, hc, rfl⟩
            refine ⟨rfl, _, rfl, c, letters, rfl, rfl, _, d1, take_lt _ len, same_put s1 _ hD, ?_⟩
            rw [upd_same, map_take _ (by simpa using hc)]
          · rintro H1 ⟨s1, d1⟩
            have e1 : z.cps.toList.take z.cps.size = z.cps.toList := by
              rw [← Array.length_toList, List.take_length]
            rw [e1, bl_map] at d1
            refine ⟨D, _, rfl, .inl (.inl d1), ?_⟩
            have q := k _ s1
            have r1 : isNm z = (z.cps.toList.map fun c => decide (c ∈ letters.cps.toList)).all id := by
              unfold isNm
              rw [decide_eq_true (show 1 ≤ z.length by omega), decide_eq_true (show z.length ≤ 8 by omega), List.all_map]
              simp only [letters_mem]
              rfl
            rw [r1] at q
            exact q
      · refine ⟨_, rfl, iteT ?_⟩
        exact short _ (Same.refl _) fun q => h1 (by omega)
    · refine ⟨_, rfl, _, _, _, _, _, rfl, .ty _, ty, kit_ty hk, _, rfl, iteT ?_⟩
      exact k _ (Same.refl _)
def isNmD : PyData → Bool
  | .str s => isNm s
  | _ => false
theorem rw_sq {H : Hp} {a : Addr} {xs : List V} (h : Rw H a xs) : Sq K H a xs := h.elim (fun h => .inl (.inl (.inl h))) fun h => .inr (.inl (.inl h))
theorem nm_case {H : Hp} {v : V} {d : PyData} (hv : Tp H v d) (hm : mst d ≤ 100000) : (∃ s : Str, v = .str s ∧ s.length ≤ 100000 ∧ isNmD d = isNm s) ∨ ∃ n, TyX K H v (.type n) ∧ kitB n "str" = some false ∧ isNmD d = false := by
  cases d with
  | str s => exact .inl ⟨s, hv.strI, hm, rfl⟩
  | none => exact .inr ⟨_, hv.ty, rfl, rfl⟩
  | bool _ => exact .inr ⟨_, hv.ty, rfl, rfl⟩
  | int _ => exact .inr ⟨_, hv.ty, rfl, rfl⟩
  | list _ => exact .inr ⟨_, hv.ty, rfl, rfl⟩
  | tuple _ => exact .inr ⟨_, hv.ty, rfl, rfl⟩
  | dict _ => exact .inr ⟨_, hv.ty, rfl, rfl⟩
/-- a list or a tuple of so many -/
def rowD3 (lo hi : Int) (d : PyData) : Bool := isRowD d && decide (lo ≤ ((partsD d).length : Int)) && decide (((partsD d).length : Int) ≤ hi)
def spIsRow (K : PySem.W.Frag) : Sp := fun vs H Q _ => ∃ (v : V) (d : PyData) (lo hi : Int), vs = [v, .int lo, .int hi] ∧ Tp H v d ∧ ∀ H', Same H H' → Q (.bl (rowD3 lo hi d)) H'
abbrev s_is_row : Stmt := topS 7
abbrev sc_is_rowN : List Str := ["thing", "least", "most"]
abbrev ps_is_row : List Str := ["thing", "least", "most"]
theorem sc_is_row : FnScope sc_is_rowN ps_is_row (defScope s_is_row) := ⟨rfl, rfl, rfl, by decide +kernel, rfl, by decide +kernel, by decide +kernel⟩
theorem ok_is_row {f : Addr} {fd : FuncData} (F : Fun K "is_row" "is_row" s_is_row f fd) (T : Txt K mg CS) : FnOk P w K mg base CX0 1 f fd ps_is_row (spIsRow K) := by
  refine F.ok sc_is_row (fun vs H Q E h => ?_) (fun cdv A outer s H vs Q E hr h => ?_)
  · obtain ⟨_, _, _, _, rfl, _⟩ := h
    rfl
  · obtain ⟨v, d, lo, hi, rfl, hv, k⟩ := h
    refine ⟨_, (pss_one (ps_ret (pe_and (pe_callB call_isiT (by rfl) T.n_isinstance (by decide +kernel) (pa_cons (pv 0) (pa_cons (pe_tup (pa_cons (pe_bltn (v := .ty "list") (by rfl) T.n_list (by decide +kernel) rfl) (pa_cons (pe_bltn (v := .ty "tuple") (by rfl) T.n_tuple (by decide +kernel) rfl) pa_nil))) pa_nil))) (pe_one (pe_chain op_le op_le (pv 1) (pe_callB call_len_seq (by rfl) T.n_len (by decide +kernel) (pa_cons (pv 0) pa_nil)) (pv 2)))))), ?_⟩
    refine ⟨_, rfl, (by show 2 ≤ sizeLine; decide), fun tp htp => ?_⟩
    have s1 : Same H (upd H tp (.tup [.ty "list", .ty "tuple"])) := same_new _ htp
    refine ⟨_, tp, _, _, _, _, rfl, upd_same, clsLT, (hv.same s1).ty, kitAny_row, _, rfl, ?_⟩
    have q := k _ s1
    unfold rowD3 at q
    cases e : isRowD d with
    | false =>
      rw [e] at q
      exact iteF q
    | true =>
      rw [e] at q
      obtain ⟨a, xs, rfl, hx, ha⟩ := (hv.same s1).row e
      rw [← ha.len] at q
      refine iteT ⟨_, rfl, _, rfl, a, xs, rfl, rw_sq hx, _, _, rfl, rfl, _, rfl, ifd (fun h1 => ?_) fun h1 => ?_⟩
      · refine ⟨_, rfl, _, _, rfl, rfl, ?_⟩
        rw [decide_eq_true h1] at q
        exact q
      · rw [decide_eq_false h1] at q
        exact q
/-- a tuple of just so many -/
def tupD (m : Nat) : PyData → Bool
  | .tuple ds => decide (ds.length = m)
  | _ => false
def spIsTuple (K : PySem.W.Frag) : Sp := fun vs H Q _ => ∃ (v : V) (d : PyData) (m : Nat), vs = [v, .int m] ∧ Tp H v d ∧ Q (.bl (tupD m d)) H
abbrev s_is_tuple : Stmt := topS 8
abbrev sc_is_tupleN : List Str := ["thing", "many"]
abbrev ps_is_tuple : List Str := ["thing", "many"]
theorem sc_is_tuple : FnScope sc_is_tupleN ps_is_tuple (defScope s_is_tuple) := ⟨rfl, rfl, rfl, by decide +kernel, rfl, by decide +kernel, by decide +kernel⟩
theorem ok_is_tuple {f : Addr} {fd : FuncData} (F : Fun K "is_tuple" "is_tuple" s_is_tuple f fd) (T : Txt K mg CS) : FnOk P w K mg base CX0 1 f fd ps_is_tuple (spIsTuple K) := by
  refine F.ok sc_is_tuple (fun vs H Q E h => ?_) (fun cdv A outer s H vs Q E hr h => ?_)
  · obtain ⟨_, _, _, rfl, _⟩ := h
    rfl
  · obtain ⟨v, d, m, rfl, hv, k⟩ := h
    refine ⟨_, (pss_one (ps_ret (pe_and (pe_callB call_isi (by rfl) T.n_isinstance (by decide +kernel) (pa_cons (pv 0) (pa_cons (pe_bltn (v := .ty "tuple") (by rfl) T.n_tuple (by decide +kernel) rfl) pa_nil))) (pe_one (pe_cmpR op_eq (pe_callB call_len_seq (by rfl) T.n_len (by decide +kernel) (pa_cons (pv 0) pa_nil)) (pv 1) (nomark _)))))), ?_⟩
    refine ⟨_, rfl, _, _, _, _, _, rfl, .ty _, hv.ty, kit_ty (kit_d (by simp)), _, rfl, ?_⟩
    cases d with
    | tuple ds =>
      obtain ⟨a, xs, rfl, hx, ha⟩ := hv.tuple
      refine iteT ⟨_, rfl, a, xs, rfl, .inr (.inl (.inl hx)), _, rfl, rfl, ?_⟩
      rw [ha.len]
      have e : decide (V.int (ds.length : Int) = V.int (m : Int)) = decide (ds.length = m) := by
        by_cases h : ds.length = m
        · rw [decide_eq_true h, h]
          exact decide_eq_true rfl
        · rw [decide_eq_false h]
          exact decide_eq_false fun z => h (Int.ofNat.inj (V.int.inj z))
      show Q (V.bl (decide (V.int (ds.length : Int) = V.int (m : Int)))) H
      rw [e]
      exact k
    | none => exact iteF k
    | bool _ => exact iteF k
    | int _ => exact iteF k
    | str _ => exact iteF k
    | list _ => exact iteF k
    | dict _ => exact iteF k
/-- the texts among the parts -/
def strsD : List PyData → List Str
  | [] => []
  | .str s :: ds => s :: strsD ds
  | _ :: ds => strsD ds
theorem strs_all : ∀ {ds : List PyData}, ds.all isNmD = true → ds = (strsD ds).map PyData.str ∧ (strsD ds).all isNm = true
  | [], _ => ⟨rfl, rfl⟩
  | d :: ds, h => by
    rw [List.all_cons, Bool.and_eq_true] at h
    obtain ⟨z1, z2⟩ := strs_all h.2
    cases d with
    | str s =>
      refine ⟨?_, ?_⟩
      · show PyData.str s :: ds = PyData.str s :: (strsD ds).map PyData.str
        rw [← z1]
      · show (s :: strsD ds).all isNm = true
        rw [List.all_cons, z2, Bool.and_true]
        exact h.1
    | _ => cases h.1
/-- so many names, none twice -/
def nmsD (lo hi : Int) (d : PyData) : Bool := rowD3 lo hi d && (partsD d).all isNmD && decide (strsD (partsD d)).Nodup
theorem isNm_len {s : Str} (h : isNm s = true) : s.length ≤ 100000 := by
  unfold isNm at h
  simp only [Bool.and_eq_true, decide_eq_true_eq] at h
  omega
def spAreNames (K : PySem.W.Frag) : Sp := fun vs H Q _ => ∃ (v : V) (d : PyData) (lo hi : Int), vs = [v, .int lo, .int hi] ∧ Tp H v d ∧ siz d ≤ 100000 ∧ mst d ≤ 100000 ∧ hi ≤ 100 ∧ ∀ H', Same H H' → Q (.bl (nmsD lo hi d)) H'
end
end Fm

/-! ## K32C -/
set_option Elab.async false
set_option maxRecDepth 100000
set_option maxHeartbeats 4000000
namespace Fm
open PySem L2
/-- a def that promises nothing keeps it -/
theorem fn_no {P : Program} {w : World} {K : PySem.W.Frag} {mg : Str → Option Value} {base : Heap} {k : Nat} {f : Addr} {fd : FuncData} {ps : List Str} {sp : Sp} (h : ∀ vs H Q E, sp vs H Q E → False) : FnOk P w K mg base CX0 k f fd ps sp :=
  ⟨fun vs H Q E z => (h vs H Q E z).elim, fun _ _ _ H _ _ vs Q E _ _ _ _ z => (h vs H Q E z).elim⟩
theorem tupd_parts {d : PyData} (h : isRowD d = true) : tupd d = .tuple ((partsD d).map tupd) := by
  cases d with
  | list ds => exact congrArg PyData.tuple (tupdL_map ds)
  | tuple ds => exact congrArg PyData.tuple (tupdL_map ds)
  | _ => cases h
theorem tupd_flat {d : PyData} (h : isRowD d = false) : tupd d = d := by
  cases d <;> first | rfl | cases h
section
variable {P : Program} {w : World} {K : PySem.W.Frag} {mg : Str → Option Value} {base : Heap} {CS CB : Addr}
/-- as_tuples: the same tree, all its rows as new tuples -/
def spTup (n : Nat) : Sp := fun vs H Q _ => ∃ (F : Hp) (v : V) (d : PyData), vs = [v] ∧ Same F H ∧ Tp F v d ∧ dep d < n ∧ siz d ≤ 100000 ∧ ∀ v' F' H', Grow F H F' H' → Tp F' v' (tupd d) → Q v' H'
def tableD : PyData → Bool
  | .tuple [a, b] => isNmD a && nmsD 1 4 b
  | _ => false
def nameT : PyData → Str
  | .tuple (.str s :: _) => s
  | _ => ""
def spIsTable : Sp := fun vs H Q _ => ∃ (v : V) (d : PyData), vs = [v] ∧ Tp H v d ∧ siz d ≤ 100000 ∧ mst d ≤ 100000 ∧ ∀ H', Same H H' → Q (.bl (tableD d)) H'
def firstBadT (names : List Str) : List PyData → Option Nat
  | [] => none
  | d :: ds => if tableD d = true ∧ nameT d ∉ names then (firstBadT (names ++ [nameT d]) ds).map (· + 1) else some 0
def shapeBad (d : PyData) : Option Int := if rowD3 1 5 d = true then (firstBadT [] (partsD d)).map Int.ofNat else some (-1)
def ErrAt (H : Hp) (i : Int) (E : Option Addr → Hp → Prop) : Prop := ∀ (d : Addr) (H' : Hp), Same H H' → H d = none → H' d = some (.xd [("at", .int i)]) → E (some d) H'
def spCheck (CB : Addr) : Sp := fun vs H Q E => ∃ (v : V) (d : PyData), vs = [v] ∧ Tp H v d ∧ siz d ≤ 100000 ∧ mst d ≤ 100000 ∧ (shapeBad d = none → ∀ H', Same H H' → Q .non H') ∧ ∀ i, shapeBad d = some i → ErrAt H i (E (.ref CB))
theorem first_ok {names : List Str} {d : PyData} {ds : List PyData} (h : tableD d = true) (n : nameT d ∉ names) : firstBadT names (d :: ds) = (firstBadT (names ++ [nameT d]) ds).map (· + 1) := by
  show (if _ then _ else _) = _
  rw [if_pos ⟨h, n⟩]
theorem first_bad {names : List Str} {d : PyData} {ds : List PyData} (h : ¬ (tableD d = true ∧ nameT d ∉ names)) : firstBadT names (d :: ds) = some 0 := by
  show (if _ then _ else _) = _
  rw [if_neg h]
theorem table_str {H : Hp} {v : V} {d : PyData} (hv : Tp H v d) (h : tableD d = true) : ∃ p r e, v = .ref p ∧ H p = some (.tup [.str (nameT d), r]) ∧ d = .tuple [.str (nameT d), e] ∧ Tp H r e := by
  cases d with
  | tuple ds =>
    match ds, h with
    | [], h => cases h
    | [_], h => cases h
    | _ :: _ :: _ :: _, h => cases h
    | [c, e], h =>
      have h2 : (isNmD c && nmsD 1 4 e) = true := h
      rw [Bool.and_eq_true] at h2
      obtain ⟨p, xs, rfl, hp, ha⟩ := hv.tuple
      cases c with
      | str s =>
        cases ha with
        | cons h1 h2 =>
          cases h2 with
          | cons h3 h4 =>
            cases h4
            rw [h1.strI] at hp
            exact ⟨p, _, e, rfl, hp, rfl, h3⟩
      | _ => cases h2.1
  | _ => cases h
end
end Fm

/-! ## K32D -/
set_option Elab.async false
set_option maxRecDepth 100000
set_option maxHeartbeats 4000000
namespace Fm
open PySem L2
/-! ### a shape is made of anything -/
def shF (v : V) : List (Str × V) := [("tables", v)]
/-- a shape stands at x, with this tree of tables -/
def ShT (CS : Addr) (F : Hp) (x : Addr) (d : PyData) : Prop := ∃ dx v, F x = some (.ins CS dx (shF v)) ∧ Tp F v d
theorem ShT.same {CS : Addr} {F F' : Hp} {x : Addr} {d : PyData} (h : ShT CS F x d) (s : Same F F') : ShT CS F' x d := by
  obtain ⟨dx, v, h1, h2⟩ := h
  exact ⟨dx, v, s _ _ h1, h2.same s⟩
section
variable {P : Program} {w : World} {K : PySem.W.Frag} {mg : Str → Option Value} {base : Heap} {CS CB : Addr}
def spShInit (CS CB : Addr) : Sp := fun vs H Q E => ∃ (F : Hp) (x dx : Addr) (v : V) (d : PyData), vs = [.ref x, v] ∧ H x = some (.ins CS dx []) ∧ Same F H ∧ F x = none ∧ Tp F v d ∧ dep d < 40 ∧ siz d ≤ 100000 ∧ mst d ≤ 100000 ∧
  (∀ i, shapeBad d = some i → ErrAt H i (E (.ref CB))) ∧ (shapeBad d = none → ∀ tv F' H', Grow F H F' H' → Tp F' tv (tupd d) → Q .non (upd H' x (.ins CS dx (shF tv))))
/-- what a caller of Shape has to say -/
theorem shape_made {F0 H : Hp} {x dx : Addr} {v : V} {d : PyData} {R : Hp → Prop} {E : XK} (sF : Same F0 H) (hv : Tp F0 v d) (hd : dep d < 40) (hz : siz d ≤ 100000) (hm : mst d ≤ 100000) (nx : H x = none) (nd : H dx = none) (ne : dx ≠ x)
    (kE : ∀ i, shapeBad d = some i → ErrAt H i (E (.ref CB))) (kQ : shapeBad d = none → ∀ F' H', Grow F0 H F' H' → ShT CS F' x (tupd d) → R H') :
    spShInit CS CB [.ref x, v] (upd (upd H dx (.own x)) x (.ins CS dx [])) (fun z H' => z = .non ∧ R H') E := by
  have s1 : Same H (upd (upd H dx (.own x)) x (.ins CS dx [])) := fun a o e => by
    rw [upd_ne (ne_of_none e nx), upd_ne (ne_of_none e nd)]
    exact e
  have fx := sF.free nx
  refine ⟨F0, x, dx, v, d, rfl, upd_same, sF.trans s1, fx, hv, hd, hz, hm, fun i e dd H' s hn h => kE i e dd H' (s1.trans s) (s1.free hn) h, fun e tv F' H' g ht => ⟨rfl, ?_⟩⟩
  have xF' : F' x = none := (g.hh x _ fx upd_same).1
  have sX : Same F' (upd F' x (.ins CS dx (shF tv))) := same_new _ xF'
  refine kQ e _ _ ⟨g.ff.trans sX, same_upd g.fh x _, fun a o e1 e2 => ?_⟩ ⟨dx, tv, upd_same, ht.same sX⟩
  obtain ⟨z1, z2⟩ := g.hh a o e1 (s1 _ _ e2)
  have n := ne_of_none e2 nx
  rw [upd_ne n, upd_ne n]
  exact ⟨z1, z2⟩
end
end Fm

/-! ## FmName -/
set_option Elab.async false
set_option maxRecDepth 100000
set_option maxHeartbeats 4000000
/-! Names that are drawn: letters put together, a letter behind a stem until it is new. -/
namespace Fm
open PySem L2
theorem bag_junk {F H : Hp} {b p : Addr} (B : Bag F H b) (o : HO) (hp : H p = none) : Bag F (upd H p o) b := bag_same B (same_new o hp)
theorem bag_sub {F F1 H : Hp} {b : Addr} (s : Same F F1) (B : Bag F1 H b) : Bag F H b := by
  obtain ⟨h, fb, cl, ns, p, g, z, c, hh, e1, r⟩ := B
  exact ⟨s.trans h, s.free fb, cl, ns, p, g, z, c, hh, s.free e1, r⟩
theorem at_mem {α : Type} {xs : List α} {r : Int} (h0 : 0 ≤ r) (h1 : r < (xs.length : Int)) : ∃ v, atI xs r = some v ∧ v ∈ xs := by
  obtain ⟨n, rfl⟩ : ∃ n : Nat, r = (n : Int) := ⟨r.toNat, by omega⟩
  have h : n < xs.length := by omega
  exact ⟨xs[n], atI_nat (List.getElem?_eq_getElem h), List.getElem_mem h⟩
theorem nodup_le {α : Type} [DecidableEq α] : ∀ {l m : List α}, l.Nodup → (∀ x ∈ l, x ∈ m) → l.length ≤ m.length
  | [], _, _, _ => Nat.zero_le _
  | x :: r, m, hN, hs => by
    have hx := hs x List.mem_cons_self
    have q := List.nodup_cons.mp hN
    have ih := nodup_le (l := r) (m := m.erase x) q.2 fun y hy => by
      have n : y ≠ x := fun z => q.1 (by rw [← z]; exact hy)
      exact (List.mem_erase_of_ne n).mpr (hs y (List.mem_cons_of_mem _ hy))
    rw [List.length_erase_of_mem hx] at ih
    have pos : 0 < m.length := List.length_pos_of_mem hx
    rw [List.length_cons]
    omega
abbrev one (c : Nat) : Str := ⟨#[c]⟩
def ofL (cs : List Nat) : Str := ⟨cs.toArray⟩
theorem isNm_ofL {cs : List Nat} (h1 : 1 ≤ cs.length) (h2 : cs.length ≤ 8) (h3 : ∀ c ∈ cs, 97 ≤ c ∧ c ≤ 122) : isNm (ofL cs) = true := by
  have l : (ofL cs).length = cs.length := by simp [ofL, Str.length]
  unfold isNm
  rw [l, decide_eq_true h1, decide_eq_true h2]
  show (cs.toArray.toList.all fun c => decide (97 ≤ c) && decide (c ≤ 122)) = true
  rw [List.all_eq_true]
  intro c m
  have q := h3 c (by simpa using m)
  simp [q.1, q.2]
theorem isNm_inv {s : Str} (h : isNm s = true) : 1 ≤ s.cps.toList.length ∧ s.cps.toList.length ≤ 8 ∧ ∀ c ∈ s.cps.toList, 97 ≤ c ∧ c ≤ 122 := by
  unfold isNm at h
  simp only [Bool.and_eq_true, List.all_eq_true, decide_eq_true_eq] at h
  have l : s.cps.toList.length = s.length := by simp [Str.length]
  rw [l]
  exact ⟨h.1.1, h.1.2, h.2⟩
theorem str_ext {s t : Str} (h : s.cps.toList = t.cps.toList) : s = t := by
  obtain ⟨a⟩ := s
  obtain ⟨b⟩ := t
  have e : a = b := Array.ext' h
  rw [e]
theorem ofL_of (s : Str) : ofL s.cps.toList = s := str_ext (by simp [ofL])
theorem joinL_nil : ∀ cs : List Nat, TL.joinL [] (cs.map fun c => [c]) = cs
  | [] => rfl
  | [_] => rfl
  | c :: d :: r => by
    show [c] ++ ([] ++ TL.joinL [] ((d :: r).map fun c => [c])) = c :: d :: r
    rw [joinL_nil (d :: r)]
    rfl
theorem join_one (cs : List Nat) : Txt.join "" (cs.map one) = ofL cs := by
  refine str_ext ?_
  have e := TL.tl_join "" (cs.map one)
  rw [List.map_map] at e
  rw [TL.join_eq]
  exact e.trans (joinL_nil cs)
theorem cutS_to (n : Str) (k : Nat) : cutS n none (some (k : Int)) = ofL (n.cps.toList.take k) := by
  have l : n.cps.toList.length = n.length := by simp [Str.length]
  unfold cutS
  rw [HT.sIx_none, HT.sIx_nat, List.drop_zero, Nat.sub_zero]
  show (⟨(n.cps.toList.take (min k n.length)).toArray⟩ : Str) = ⟨(n.cps.toList.take k).toArray⟩
  rw [← l, ← List.take_eq_take_min]
theorem cutV_to (xs : List V) (k : Nat) : cutV xs none (some (k : Int)) = xs.take k := by
  unfold cutV
  rw [HT.sIx_none, HT.sIx_nat, List.drop_zero, Nat.sub_zero, ← List.take_eq_take_min]
theorem add_one {l : List Nat} {c : Nat} : ofL l ++ one c = ofL (l ++ [c]) := by
  refine str_ext ?_
  show (l.toArray ++ #[c]).toList = _
  simp [ofL]
/-- the word of the turn i: first w itself, then its stem with one letter after another -/
def wd (w : Str) (st : List Nat) (i : Nat) : Str := if i = 0 then w else ofL (st ++ [96 + i])
theorem wd_inj {w : Str} {st : List Nat} {i j : Nat} (hi : i ≠ 0) (hj : j ≠ 0) (h : wd w st i = wd w st j) : i = j := by
  unfold wd at h
  rw [if_neg hi, if_neg hj] at h
  have q : (st ++ [96 + i]).toArray = (st ++ [96 + j]).toArray := congrArg Str.cps h
  have q2 : st ++ [96 + i] = st ++ [96 + j] := by simpa using q
  have q3 := List.append_cancel_left q2
  injection q3 with q4 _
  omega
theorem wd_nm {w : Str} (h : isNm w = true) (i : Nat) (hi : i ≤ 26) : isNm (wd w (w.cps.toList.take 7) i) = true := by
  obtain ⟨h1, h2, h3⟩ := isNm_inv h
  unfold wd
  by_cases e : i = 0
  · rw [if_pos e]
    exact h
  · rw [if_neg e]
    refine isNm_ofL (by simp) ?_ fun c m => ?_
    · rw [List.length_append, List.length_take, List.length_singleton]
      omega
    · rcases List.mem_append.mp m with m | m
      · exact h3 c (List.mem_of_mem_take m)
      · rw [List.mem_singleton.mp m]
        omega
theorem wd_few {w : Str} {st : List Nat} {tk : List Str} {n : Nat} (h : ∀ j, j < n → wd w st j ∈ tk) : n ≤ tk.length + 1 := by
  have q := nodup_le (l := (List.range (n - 1)).map fun j => wd w st (j + 1)) (m := tk) ?_ ?_
  · rw [List.length_map, List.length_range] at q
    omega
  · refine List.Pairwise.map _ (R := (· ≠ ·)) (fun a b hab e => hab ?_) List.nodup_range
    have z := wd_inj (Nat.succ_ne_zero a) (Nat.succ_ne_zero b) e
    omega
  · intro x m
    obtain ⟨j, hj, rfl⟩ := List.mem_map.mp m
    have z := List.mem_range.mp hj
    exact h (j + 1) (by omega)
end Fm

/-! ## K32E -/
set_option Elab.async false
set_option maxRecDepth 100000
set_option maxHeartbeats 4000000
namespace Fm
open PySem L2
theorem pss_never {X : Cx} {b : List Stmt} : PSs X b tNever := ⟨fun _ _ _ _ _ _ h => False.elim h⟩
section
variable {P : Program} {w : World} {K : PySem.W.Frag} {mg : Str → Option Value} {base : Heap} {CS : Addr}
def spBag (K : PySem.W.Frag) : Sp := fun vs H Q _ => ∃ (a : Addr) (ns : List Int), vs = [.ref a] ∧ SqL K H a (ns.map V.int) ∧ ns.length ≤ 63 ∧ ∀ b H', Bag nil0 H' b → Q (.ref b) H'
abbrev s_l_bag : Stmt := topS 33
abbrev sc_l_bagN : List Str := ["_law_script"]
abbrev ps_l_bag : List Str := ["_law_script"]
theorem sc_l_bag : FnScope sc_l_bagN ps_l_bag (defScope s_l_bag) := ⟨rfl, rfl, rfl, by decide +kernel, rfl, by decide +kernel, by decide +kernel⟩
theorem ok_l_bag {f : Addr} {fd : FuncData} (F : Fun K "_law_bag" "_law_bag" s_l_bag f fd) (T : Txt K mg CS) : FnOk P w K mg base CX0 1 f fd ps_l_bag (spBag K) := by
  refine F.ok sc_l_bag (fun vs H Q E h => ?_) (fun cdv A outer s H vs Q E hr h => ?_)
  · obtain ⟨_, _, rfl, _⟩ := h
    rfl
  · obtain ⟨a, ns, rfl, hs, hl, k⟩ := h
    refine ⟨_, (pss_one (ps_ret (pe_lst (pa_cons (pe_callTy call_list_of (by rfl) T.n_list (by decide +kernel) (pa_cons (pe_slice sl_list (pv 0) po_none (po_some pe_int)) pa_nil)) (pa_cons pe_int (pa_cons pe_int (pa_cons pe_int (pa_cons pe_int (pa_cons pe_int pa_nil))))))))), ?_⟩
    refine ⟨_, rfl, _, rfl, a, _, rfl, hs, fun p hp => ?_⟩
    refine ⟨p, _, rfl, .inl (.inl (.inl upd_same)), fun c hc => ⟨by show 6 ≤ sizeLine; decide, fun b hb => ?_⟩⟩
    have ncb : c ≠ b := ne_of_none upd_same hb
    have e : cutV (ns.map V.int) none (some 63) = (ns.take 63).map V.int := by
      rw [List.map_take]
      exact cutV_to _ 63
    refine k b _ ⟨fun _ _ z => (by cases z), rfl, c, ns.take 63, 0, 0, 0, 0, 0, rfl, ncb, ?_, upd_same, by omega, by omega, by omega, by omega⟩
    rw [upd_ne ncb, upd_same, e]
def spName : Sp := fun vs H Q _ => ∃ (F : Hp) (b l : Addr) (tk : List Str), vs = [.ref b, .ref l] ∧ Bag F H b ∧ F l = some (.lst (tk.map V.str)) ∧ tk.length ≤ 20 ∧
  ∀ (n : Str) (H' : Hp), isNm n = true → n ∉ tk → Bag (upd F l (.lst ((tk ++ [n]).map V.str))) H' b → Q (.str n) H'
abbrev s_l_name : Stmt := topS 35
abbrev sc_l_nameN : List Str := ["_law_bag_here", "_law_taken", "_law_letters", "_law_word", "_law_k", "_law_stem"]
abbrev ps_l_name : List Str := ["_law_bag_here", "_law_taken"]
theorem sc_l_name : FnScope sc_l_nameN ps_l_name (defScope s_l_name) := ⟨rfl, rfl, rfl, by decide +kernel, rfl, by decide +kernel, by decide +kernel⟩
theorem ok_l_name {f : Addr} {fd : FuncData} (F : Fun K "_law_name" "_law_name" s_l_name f fd) (T : Txt K mg CS) (D_l_pick : Df P w K mg base "_law_pick" 1 ps_l_pick spPick) : FnOk P w K mg base CX0 2 f fd ps_l_name spName := by
  refine F.ok sc_l_name (fun vs H Q E h => ?_) (fun cdv A outer s H vs Q E hr h => ?_)
  · obtain ⟨_, _, _, _, rfl, _⟩ := h
    rfl
  · obtain ⟨F0, b, l, tk, rfl, B, hl, len, k⟩ := h
    refine ⟨_, (pss_cons (ps_set (i := 2) sc_l_name.nd rfl (Or.inr rfl) pe_str)
  (Evl.pss_cut (ps_if (pt_cmpR op_eq (pe_d D_l_pick (hr.mono (by decide)) (pa_cons (pv 0) (pa_cons pe_int pa_nil))) pe_int (nomark _))
    (pss_one (ps_set (i := 3) sc_l_name.nd rfl (Or.inl rfl) (pe_ix ix_list (pe_lst (pa_cons pe_str (pa_cons pe_str (pa_cons pe_str (pa_cons pe_str (pa_cons pe_str (pa_cons pe_str (pa_cons pe_str (pa_cons pe_str pa_nil))))))))) (pe_d D_l_pick (hr.mono (by decide)) (pa_cons (pv 0) (pa_cons pe_int pa_nil))) (fun _ _ => rfl))))
    (pss_one (ps_set (i := 3) sc_l_name.nd rfl (Or.inl rfl) (pe_join pe_str (pe_lc (own := [("_law_k", 4)]) (g := gName 4) (tt := tYes) (by rfl) sc_l_name.nd (pi_range1 (by rfl) T.n_range (pa_cons (pe_op op_add pe_int (pe_d D_l_pick (hr.mono (by decide)) (pa_cons (pv 0) (pa_cons pe_int pa_nil)))) pa_nil)) (blkOk_by (own := [("_law_k", 4)]) (N := sc_l_nameN) (sc := defScope s_l_name) (by decide +kernel)) (fun _ _ _ _ _ => pg_name (i := 4) sc_l_name.nd rfl (Or.inl rfl)) (fun _ _ _ _ _ => pts_nil) (fun _ _ _ _ _ => (pe_ix ix_str (pv 2) (pe_d D_l_pick (hr.mono (by decide)) (pa_cons (pv 0) (pa_cons pe_int pa_nil))) (fun _ _ => rfl))))))))
  (pss_cons (ps_set (i := 5) sc_l_name.nd rfl (Or.inl rfl) (pe_slice sl_str (pv 3) po_none (po_some pe_int)))
  (pss_cons (ps_for PassesOwn.never rfl (pi_range1 (by rfl) T.n_range (pa_cons pe_int pa_nil)) (pg_name (i := 4) sc_l_name.nd rfl (Or.inl rfl))
    (pss_cons (ps_if (pt_cmpR op_notIn_seq (pv 3) (pv 1) (by rfl))
      (pss_one ps_break)
      pss_nil)
    (pss_one (ps_set (i := 3) sc_l_name.nd rfl (Or.inl rfl) (pe_op op_add_str (pv 5) (pe_ix ix_str (pv 2) (pv 4) (fun _ _ => rfl)))))))
  (pss_cons (ps_expr (pe_bm PySem.F.plainAttrs_list PySem.F.slot_list_append PySem.F.type_list_append mt_append (pv 1) (pa_cons (pv 3) pa_nil)))
  (pss_one (ps_ret (pv 3)))))))), ?_⟩
    -- the word
    refine ⟨fun σ H' => ∃ (n : Str) (v : Option V), σ = [some (.ref b), some (.ref l), some (.str letters), some (.str n), v, none] ∧ isNm n = true ∧ Bag F0 H' b, ?_, ?_⟩
    · refine ⟨_, rfl, F0, b, 12, rfl, by decide, by decide, B, fun r H1 r0 r1 B1 => ⟨rfl, _, rfl, ifd (fun _ => ?_) fun _ => ?_⟩⟩
      · refine ⟨by show 8 ≤ sizeLine; decide, fun p hp => ?_⟩
        refine ⟨_, rfl, _, b, 8, rfl, by decide, by decide, B1.new _ hp, fun r H2 r0 r1 B2 => ?_⟩
        obtain ⟨v, hv, hm⟩ := at_mem (xs := (["end", "put", "scan", "none", "of", "same", "table", "block"] : List Str).map V.str) r0 r1
        obtain ⟨n, hn, rfl⟩ := List.mem_map.mp hm
        have good : ∀ n ∈ (["end", "put", "scan", "none", "of", "same", "table", "block"] : List Str), isNm n = true := by decide +kernel
        refine ⟨p, _, _, _, rfl, rfl, .inl (.inl (B2.fh _ _ upd_same)), hv, ?_⟩
        exact ⟨n, _, rfl, good n hn, bag_sub (fun a o e => by rw [upd_ne (ne_of_none (B1.fh _ _ e) hp)]; exact e) B2⟩
      · refine ⟨⟨_, rfl⟩, _, rfl, F0, b, 8, rfl, by decide, by decide, B1, fun r H2 r0 r1 B2 => ⟨_, _, rfl, rfl, _, rfl, by omega, by omega, fun D hD => ?_⟩⟩
        have fD : F0 D = none := B2.fh.free hD
        have nDl : D ≠ l := fun q => by rw [q, hl] at fD; cases fD
        have toF : ∀ o, Same F0 (upd F0 D o) := fun o a u e => by rw [upd_ne (ne_of_none e fD)]; exact e
        refine lc_range (lo := 0) (n := (1 + r).toNat) (fun i H' => ∃ cs : List Nat, cs.length = i ∧ (∀ c ∈ cs, 97 ≤ c ∧ c ≤ 122) ∧ Bag (upd F0 D (.lst ((cs.map one).map V.str))) H' b) ⟨[], rfl, fun _ m => (by cases m), B2.new _ hD⟩ ?_ ?_
        · rintro i H3 hi ⟨cs, rfl, hcs, B3⟩
          refine ⟨rfl, _, rfl, _, rfl, _, b, 26, rfl, by decide, by decide, B3, fun q H4 q0 q1 B4 => ?_⟩
          obtain ⟨c, hc, hm⟩ := at_mem (xs := letters.cps.toList) q0 (by rw [letters_list]; exact q1)
          rw [letters_list] at hm
          have hm2 := List.mem_range'_1.mp hm
          refine ⟨letters, _, c, rfl, rfl, by decide +kernel, hc, _, B4.fh _ _ upd_same, ?_, cs ++ [c], by simp, fun z m => ?_, ?_⟩
          · rw [List.length_map, List.length_map]
            exact Nat.lt_of_lt_of_le (show cs.length < 100 by omega) (by decide)
          · rcases List.mem_append.mp m with m | m
            · exact hcs z m
            · rw [List.mem_singleton.mp m]
              omega
          · have z := B4.put (.lst (((cs ++ [c]).map one).map V.str)) upd_same
            rw [upd_upd] at z
            have e : ((cs ++ [c]).map one).map V.str = (cs.map one).map V.str ++ [V.str (one c)] := by
              rw [List.map_append, List.map_append]
              rfl
            rw [e] at z ⊢
            exact z
        · rintro H3 ⟨cs, hl3, hcs, B3⟩
          refine ⟨_, D, cs.map one, rfl, rfl, .inl (.inl (.inl (B3.fh _ _ upd_same))), ?_, ?_⟩
          · have e : ((cs.map one).map (·.length)).sum = cs.length := by
              rw [List.map_map]
              clear hl3 hcs B3
              induction cs with
              | nil => rfl
              | cons c cs ih => rw [List.map_cons, List.sum_cons, ih, List.length_cons]; show 1 + cs.length = cs.length + 1; omega
            rw [e, List.length_map]
            show cs.length + cs.length * 0 ≤ 16777216
            omega
          · rw [join_one]
            exact ⟨ofL cs, _, rfl, isNm_ofL (by omega) (by omega) hcs, bag_sub (toF _) B3⟩
    · rintro σ H1 ⟨n, v, rfl, gn, B1⟩
      obtain ⟨n1, n2, n3⟩ := isNm_inv gn
      refine ⟨_, rfl, _, rfl, n, rfl, Nat.le_trans (isNm_len gn) (by decide), ?_⟩
      have cut : cutS n none (some 7) = ofL (n.cps.toList.take 7) := cutS_to n 7
      rw [cut]
      have hl1 := B1.fh _ _ hl
      refine ⟨26, rfl, by decide, by decide, for_range (lo := 0) (n := 26) (fun i σ H' => ∃ v, σ = [some (.ref b), some (.ref l), some (.str letters), some (.str (wd n (n.cps.toList.take 7) i)), v, some (.str (ofL (n.cps.toList.take 7)))] ∧ H' = H1 ∧ ∀ j, j < i → wd n (n.cps.toList.take 7) j ∈ tk) ⟨_, rfl, rfl, fun j z => absurd z (Nat.not_lt_zero _)⟩ ?_ ?_⟩
      · rintro i σ H' hi ⟨v, rfl, rfl, all⟩
        refine ⟨_, rfl, _, rfl, l, _, rfl, .inl (.inl (.inl hl1)), rfl, flat_strs _, _, rfl, ?_⟩
        rw [inV_str]
        refine ifn (fun new => ?_) fun old => ?_
        · refine ⟨_, rfl, .inl ⟨rfl, _, .inl (.inl hl1)⟩, _, rfl, l, _, _, rfl, rfl, hl1, by rw [List.length_map]; exact Nat.lt_of_le_of_lt len (by decide), _, rfl, ?_⟩
          refine k _ _ (wd_nm gn i (by omega)) new ?_
          have z := B1.put (.lst ((tk ++ [wd n (n.cps.toList.take 7) i]).map V.str)) hl
          rw [show (tk ++ [wd n (n.cps.toList.take 7) i]).map V.str = tk.map V.str ++ [V.str (wd n (n.cps.toList.take 7) i)] from by rw [List.map_append]; rfl] at z ⊢
          exact z
        · obtain ⟨c, hc, hm⟩ := at_mem (xs := letters.cps.toList) (r := 0 + (i : Int)) (by omega) (by rw [letters_list, List.length_range']; omega)
          have ec : c = 97 + i := by
            rw [letters_list, Int.zero_add] at hc
            have z := atI_nat (xs := List.range' 97 26) (j := i) (v := 97 + i) (by rw [List.getElem?_range' (by omega)]; simp)
            rw [hc] at z
            exact Option.some.inj z
          refine ⟨_, rfl, _, rfl, _, rfl, letters, _, c, rfl, rfl, by decide +kernel, hc, _, _, rfl, rfl, ?_, some (.int (0 + (i : Nat))), ?_, rfl, fun j hj => ?_⟩
          · have l7 : (ofL (n.cps.toList.take 7)).length ≤ 7 := by
              simp [ofL, Str.length]
              omega
            exact Nat.le_trans (Nat.add_le_add l7 (Nat.le_refl 1)) (show 8 ≤ sizeLine by decide)
          · have e : wd n (n.cps.toList.take 7) (i + 1) = ofL (n.cps.toList.take 7 ++ [97 + i]) := by
              unfold wd
              rw [if_neg (Nat.succ_ne_zero i), show 96 + (i + 1) = 97 + i by omega]
            rw [add_one, ec, e]
            rfl
          · rcases Nat.lt_succ_iff_lt_or_eq.mp hj with z | rfl
            · exact all j z
            · exact old
      · rintro σ H' ⟨v, rfl, rfl, all⟩
        exact absurd (wd_few (n := 26) all) (by omega)
end
end Fm

/-! ## K32F -/
set_option Elab.async false
set_option maxRecDepth 100000
set_option maxHeartbeats 4000000
namespace Fm
open PySem L2
theorem upd_none {F : Hp} {a b : Addr} {o : HO} (h : F a = none) (n : a ≠ b) : upd F b o a = none := by rw [upd_ne n]; exact h
theorem upd_comm {F : Hp} {a b : Addr} {x y : HO} (n : a ≠ b) : upd (upd F a x) b y = upd (upd F b y) a x := by
  funext c
  unfold upd
  by_cases h1 : c = b
  · subst h1
    rw [if_pos rfl, if_neg (Ne.symm n), if_pos rfl]
  · rw [if_neg h1]
    by_cases h2 : c = a
    · rw [if_pos h2, if_pos h2]
    · rw [if_neg h2, if_neg h2, if_neg h1]
theorem nodup_snoc {α : Type} {l : List α} {x : α} (h : l.Nodup) (n : x ∉ l) : (l ++ [x]).Nodup := by
  refine List.pairwise_append.mpr ⟨h, .cons (fun _ m => (by cases m)) .nil, fun a ha b hb e => ?_⟩
  rw [List.mem_singleton.mp hb] at e
  exact n (by rw [← e]; exact ha)
/-- a row of good names, none twice -/
structure Nms (fs : List Str) : Prop where
  lo : 1 ≤ fs.length
  hi : fs.length ≤ 4
  nm : ∀ f ∈ fs, isNm f = true
  nd : fs.Nodup
abbrev Tab := Str × List Str
structure TOk (t : Tab) : Prop where
  nm : isNm t.1 = true
  fs : Nms t.2
def tabD (b : Bool) (t : Tab) : PyData := .tuple [.str t.1, if b = true then .list (t.2.map PyData.str) else .tuple (t.2.map PyData.str)]
structure TsOk (ts : List Tab) : Prop where
  lo : 1 ≤ ts.length
  hi : ts.length ≤ 5
  ok : ∀ t ∈ ts, TOk t
  nd : (ts.map (·.1)).Nodup
/-- a list of tables stands at p -/
def TbAt (F : Hp) (p : Addr) (ts : List Tab) : Prop := ∃ xs, F p = some (.lst xs) ∧ TpAll F xs (ts.map (tabD false))
theorem TbAt.same {F F' : Hp} {p : Addr} {ts : List Tab} (h : TbAt F p ts) (s : Same F F') : TbAt F' p ts := by
  obtain ⟨xs, h1, h2⟩ := h
  exact ⟨xs, s _ _ h1, h2.same s⟩
end Fm

/-! ## K32H -/
set_option Elab.async false
set_option maxRecDepth 100000
set_option maxHeartbeats 4000000
namespace Fm
open PySem L2
theorem ifF {c : Bool} {A B : Prop} (hc : c = false) (h : B) : if c = true then A else B := by
  rw [hc]
  exact iteF h
theorem ifT {c : Bool} {A B : Prop} (hc : c = true) (h : A) : if c = true then A else B := by
  rw [hc]
  exact iteT h
theorem ix_sq {K : PySem.W.Frag} {H : Hp} {a : Addr} {xs : List V} {i : Int} {v : V} {Q : VK} (h : Sq K H a xs) (hv : atI xs i = some v) (q : Q v H) : rIx K (.ref a) (.int i) H Q := by
  rcases h with h | h
  · exact .inl ⟨a, xs, i, v, rfl, rfl, h, hv, q⟩
  · exact .inr (.inl ⟨a, xs, i, v, rfl, rfl, h, hv, q⟩)
theorem putNew {kvs : List (Key × V)} {k : Key} {z : V} (h : k ∉ kvs.map (·.1)) : putK kvs k z = kvs ++ [(k, z)] := by
  unfold putK
  rw [if_neg]
  intro e
  rw [List.any_eq_true] at e
  obtain ⟨kv, m, q⟩ := e
  exact h (List.mem_map.mpr ⟨kv, m, of_decide_eq_true q⟩)
end Fm

/-! ## K32P -/
set_option Elab.async false
set_option maxRecDepth 100000
set_option maxHeartbeats 4000000
namespace Fm
open PySem L2
theorem cutV_from (xs : List V) (k : Nat) (h : k ≤ xs.length) : cutV xs (some (k : Int)) none = xs.drop k := by
  unfold cutV
  rw [HT.sIx_none, HT.sIx_nat, Nat.min_eq_left h, List.take_of_length_le (by rw [List.length_drop]; omega)]
theorem sizL_app : ∀ ds es : List PyData, sizL (ds ++ es) = sizL ds + sizL es
  | [], es => by show sizL es = 0 + sizL es; rw [Nat.zero_add]
  | d :: ds, es => by
    show siz d + sizL (ds ++ es) = siz d + sizL ds + sizL es
    rw [sizL_app ds es, Nat.add_assoc]
theorem depL_sub : ∀ {es ds : List PyData}, (∀ c ∈ es, c ∈ ds) → depL es ≤ depL ds
  | [], _, _ => Nat.zero_le _
  | e :: es, ds, h => Nat.max_le.mpr ⟨dep_mem (h e List.mem_cons_self), depL_sub fun c m => h c (List.mem_cons_of_mem _ m)⟩
theorem sizL_drop (ds : List PyData) (n : Nat) : sizL (ds.drop n) ≤ sizL ds := by
  have z := sizL_app (ds.take n) (ds.drop n)
  rw [List.take_append_drop] at z
  omega
theorem sizL_take (ds : List PyData) (n : Nat) : sizL (ds.take n) ≤ sizL ds := by
  have z := sizL_app (ds.take n) (ds.drop n)
  rw [List.take_append_drop] at z
  omega
def isIntD : PyData → Bool
  | .int _ => true
  | _ => false
end Fm

/-! ## K32S -/
set_option Elab.async false
set_option maxRecDepth 100000
set_option maxHeartbeats 4000000
namespace Fm
open PySem L2
/-- what the top has left of names, for the stores -/
structure Tx2 (K : PySem.W.Frag) (mg : Str → Option Value) (CT : Addr) : Prop where
  g_Store : mg "Store" = some (.ref CT)
  clT : Cls K CT
  nSh : NoAttr K CT "shape"
  nRw : NoAttr K CT "_rows"
/-! ### rows of values -/
def isValD : PyData → Bool
  | .int i => decide (-1000000000 ≤ i) && decide (i ≤ 1000000000)
  | _ => false
/-- a row of w values -/
def okRow (w : Nat) (d : PyData) : Bool := rowD3 w w d && (partsD d).all isValD
/-- the first row that is not one of w values -/
def firstWrong (w : Nat) (R : List PyData) : Option Nat := R.findIdx? fun d => !okRow w d
theorem first_none {w : Nat} {R : List PyData} (h : ∀ (j : Nat) (r : PyData), R[j]? = some r → okRow w r = true) : firstWrong w R = none := by
  unfold firstWrong
  rw [List.findIdx?_eq_none_iff]
  intro r m
  obtain ⟨j, hj⟩ := List.getElem?_of_mem m
  rw [h j r hj]
  rfl
theorem first_hit {w : Nat} {R : List PyData} {i : Nat} {r : PyData} (h : ∀ (j : Nat) (r : PyData), j < i → R[j]? = some r → okRow w r = true) (hi : R[i]? = some r) (n : okRow w r = false) : firstWrong w R = some i := by
  unfold firstWrong
  obtain ⟨hl, e⟩ := List.getElem?_eq_some_iff.mp hi
  rw [List.findIdx?_eq_some_iff_getElem]
  refine ⟨hl, ?_, fun j hj => ?_⟩
  · rw [e, n]
    rfl
  · rw [h j _ hj (List.getElem?_eq_getElem _)]
    decide
/-- the index of the first wrong row of what stands in the place of the rows -/
def firstD (w : Nat) (d : PyData) : Option Int := if isRowD d = true then (firstWrong w (partsD d)).map Int.ofNat else some (-1)
def optV : Option Int → V
  | none => .non
  | some i => .int i
section
variable {P : Program} {w : World} {K : PySem.W.Frag} {mg : Str → Option Value} {base : Heap} {CS CT : Addr}
def spIsInt : Sp := fun vs H Q _ => ∃ (v : V) (d : PyData), vs = [v] ∧ Tp H v d ∧ Q (.bl (isIntD d)) H
abbrev s_is_integer : Stmt := topS 4
abbrev sc_is_integerN : List Str := ["thing"]
abbrev ps_is_integer : List Str := ["thing"]
theorem sc_is_integer : FnScope sc_is_integerN ps_is_integer (defScope s_is_integer) := ⟨rfl, rfl, rfl, by decide +kernel, rfl, by decide +kernel, by decide +kernel⟩
theorem ok_is_integer {f : Addr} {fd : FuncData} (F : Fun K "is_integer" "is_integer" s_is_integer f fd) (T : Txt K mg CS) : FnOk P w K mg base CX0 1 f fd ps_is_integer spIsInt := by
  refine F.ok sc_is_integer (fun vs H Q E h => ?_) (fun cdv A outer s H vs Q E hr h => ?_)
  · obtain ⟨_, _, rfl, _⟩ := h
    rfl
  · obtain ⟨v, d, rfl, hv, k⟩ := h
    refine ⟨_, (pss_one (ps_ret (pe_and (pe_callB call_isi (by rfl) T.n_isinstance (by decide +kernel) (pa_cons (pv 0) (pa_cons (pe_bltn (v := .ty "int") (by rfl) T.n_int (by decide +kernel) rfl) pa_nil))) (pe_one (pe_not (pe_callB call_isi (by rfl) T.n_isinstance (by decide +kernel) (pa_cons (pv 0) (pa_cons (pe_bltn (v := .ty "bool") (by rfl) T.n_bool (by decide +kernel) rfl) pa_nil)))))))), ?_⟩
    have ty := hv.ty (K := K)
    refine ⟨_, rfl, _, _, _, _, _, rfl, .ty _, ty, kit_ty (kit_d (by simp)), _, rfl, ?_⟩
    cases d with
    | int i => exact iteT ⟨_, rfl, _, _, _, _, _, rfl, .ty _, ty, kit_ty (kit_d (by simp)), _, rfl, k⟩
    | bool b => exact iteT ⟨_, rfl, _, _, _, _, _, rfl, .ty _, ty, kit_ty (kit_d (by simp)), _, rfl, k⟩
    | none => exact iteF k
    | str _ => exact iteF k
    | list _ => exact iteF k
    | tuple _ => exact iteF k
    | dict _ => exact iteF k
def spIsVal : Sp := fun vs H Q _ => ∃ (v : V) (d : PyData), vs = [v] ∧ Tp H v d ∧ Q (.bl (isValD d)) H
abbrev s_is_value : Stmt := topS 5
abbrev sc_is_valueN : List Str := ["thing"]
abbrev ps_is_value : List Str := ["thing"]
theorem sc_is_value : FnScope sc_is_valueN ps_is_value (defScope s_is_value) := ⟨rfl, rfl, rfl, by decide +kernel, rfl, by decide +kernel, by decide +kernel⟩
theorem ok_is_value {f : Addr} {fd : FuncData} (F : Fun K "is_value" "is_value" s_is_value f fd) (T : Txt K mg CS) (D_is_integer : Df P w K mg base "is_integer" 1 ps_is_integer spIsInt) : FnOk P w K mg base CX0 2 f fd ps_is_value spIsVal := by
  refine F.ok sc_is_value (fun vs H Q E h => ?_) (fun cdv A outer s H vs Q E hr h => ?_)
  · obtain ⟨_, _, rfl, _⟩ := h
    rfl
  · obtain ⟨v, d, rfl, hv, k⟩ := h
    refine ⟨_, (pss_one (ps_ret (pe_and (pe_d D_is_integer (hr.mono (by decide)) (pa_cons (pv 0) pa_nil)) (pe_one (pe_chain op_le op_le (pe_un un_neg (pe_gI T.g_LARGEST_VALUE)) (pv 0) (pe_gI T.g_LARGEST_VALUE)))))), ?_⟩
    refine ⟨_, rfl, v, d, rfl, hv, _, rfl, ?_⟩
    cases d with
    | int i =>
      rw [hv.intI] at *
      refine iteT ?_
      refine ⟨_, rfl, _, rfl, _, _, rfl, rfl, _, rfl, ifd (fun h1 => ?_) fun h1 => ?_⟩
      · refine ⟨_, _, rfl, rfl, ?_⟩
        have z : isValD (.int i) = decide (i ≤ 1000000000) := by
          show (decide (-1000000000 ≤ i) && decide (i ≤ 1000000000)) = _
          rw [decide_eq_true h1]
          rfl
        rw [z] at k
        exact k
      · have z : isValD (.int i) = false := by
          show (decide (-1000000000 ≤ i) && decide (i ≤ 1000000000)) = _
          rw [decide_eq_false h1]
          rfl
        rw [z] at k
        exact k
    | _ => exact iteF k
def spFirst : Sp := fun vs H Q _ => ∃ (v : V) (d : PyData) (wd : Nat), vs = [v, .int wd] ∧ Tp H v d ∧ siz d ≤ 100000 ∧ ∀ H', Same H H' → Q (optV (firstD wd d)) H'
end
end Fm

/-! ## K32T -/
set_option Elab.async false
set_option maxRecDepth 100000
set_option maxHeartbeats 4000000
namespace Fm
open PySem L2
theorem strs_inv {H : Hp} : ∀ {p : List Str} {xs : List V}, TpAll H xs (p.map PyData.str) → xs = p.map V.str
  | [], _, h => by cases h; rfl
  | s :: p, _, h => by
    cases h with
    | cons h1 h2 =>
      rw [h1.strI, strs_inv h2]
      rfl
theorem tab_in {H : Hp} {v : V} {t : Tab} (h : Tp H v (tabD false t)) : ∃ a c, v = .ref a ∧ H a = some (.tup [.str t.1, .ref c]) ∧ H c = some (.tup (t.2.map V.str)) := by
  obtain ⟨a, xs, rfl, ha, ta⟩ := (show Tp H v (.tuple [.str t.1, .tuple (t.2.map PyData.str)]) from h).tuple
  cases ta with
  | cons h1 h2 =>
    cases h2 with
    | cons h3 h4 =>
      cases h4
      obtain ⟨c, ys, rfl, hc, tc⟩ := h3.tuple
      rw [strs_inv tc] at hc
      rw [h1.strI] at ha
      exact ⟨a, c, rfl, ha, hc⟩
/-- the tables of a shape -/
def tsD (ts : List Tab) : PyData := .tuple (ts.map (tabD false))
/-- the first table with a wrong row -/
def firstBad (g : Str → PyData) (ts : List Tab) : Option (Str × Int) := ts.findSome? fun t => (firstD t.2.length (g t.1)).map fun i => (t.1, i)
/-- a dict of rows, by the names of the tables -/
structure Rd1 (F H : Hp) (rd : Addr) (kvs : List (Key × V)) (ts : List Tab) (g : Str → PyData) : Prop where
  at_ : H rd = some (.dK kvs)
  no : F rd = none
  len : kvs.length ≤ 100
  key : ∀ k ∈ kvs.map (·.1), ∃ t ∈ ts, (Sum.inr t.1 : Key) = k
  ex : ∀ t ∈ ts, (∃ v, valV kvs (Sum.inr t.1) = some v ∧ Tp F v (g t.1)) ∨ (valV kvs (Sum.inr t.1) = none ∧ g t.1 = .tuple [])
  sz : ∀ t ∈ ts, siz (g t.1) ≤ 100000
  dp : ∀ t ∈ ts, dep (g t.1) < 40
theorem Rd1.get {F H F' H' : Hp} {rd e : Addr} {kvs : List (Key × V)} {ts : List Tab} {g : Str → PyData} (R : Rd1 F H rd kvs ts g) {t : Tab} (m : t ∈ ts) (s : Same F F') (he : H' e = some (.tup [])) (s2 : Same F' H') : Tp H' ((valV kvs (Sum.inr t.1)).getD (.ref e)) (g t.1) := by
  rcases R.ex t m with ⟨v, h1, h2⟩ | ⟨h1, h2⟩
  · rw [h1]
    exact h2.same (s.trans s2)
  · rw [h1, h2]
    exact .tup he .nil
theorem bad_none {g : Str → PyData} {ts : List Tab} {i : Nat} {t : Tab} (h : firstBad g (ts.take i) = none) (ht : ts[i]? = some t) (n : firstD t.2.length (g t.1) = none) : firstBad g (ts.take (i + 1)) = none := by
  unfold firstBad at *
  rw [List.take_add_one, ht, List.findSome?_append, h]
  simp [n]
theorem bad_hit {g : Str → PyData} {ts : List Tab} {i : Nat} {j : Int} {t : Tab} (h : firstBad g (ts.take i) = none) (ht : ts[i]? = some t) (n : firstD t.2.length (g t.1) = some j) : firstBad g ts = some (t.1, j) := by
  have e : ts = ts.take i ++ t :: ts.drop (i + 1) := by
    obtain ⟨hl, q⟩ := List.getElem?_eq_some_iff.mp ht
    rw [← q, List.getElem_cons_drop, List.take_append_drop]
  unfold firstBad at *
  rw [e, List.findSome?_append, h]
  simp [n]
/-- an error that holds a pair -/
def ErrPair (H : Hp) (v i : V) (E : Option Addr → Hp → Prop) : Prop := ∀ (d tp : Addr) (H' : Hp), Same H H' → H d = none → H tp = none → H' d = some (.xd [("value", .ref tp)]) → H' tp = some (.tup [v, i]) → E (some d) H'
section
variable {P : Program} {w : World} {K : PySem.W.Frag} {mg : Str → Option Value} {base : Heap} {CS CT CR CN : Addr}
def spCheckR (CS CR : Addr) : Sp := fun vs H Q E => ∃ (F : Hp) (sh rd : Addr) (ts : List Tab) (kvs : List (Key × V)) (g : Str → PyData), vs = [.ref sh, .ref rd] ∧ Same F H ∧ ShT CS F sh (tsD ts) ∧ TsOk ts ∧ Rd1 F H rd kvs ts g ∧
  (∀ t i, firstBad g ts = some (t, i) → ErrPair H (.str t) (.int i) (E (.ref CR))) ∧ (firstBad g ts = none → ∀ H', Same H H' → Q .non H')
end
end Fm

/-! ## K32U -/
set_option Elab.async false
set_option maxRecDepth 100000
set_option maxHeartbeats 4000000
namespace Fm
open PySem L2
/-! ### a store is made -/
def stF (sh rd : Addr) : List (Str × V) := [("shape", .ref sh), ("_rows", .ref rd)]
theorem stF_1 (v : V) : putF "shape" v [] = ([("shape", v)] : List (Str × V)) := rfl
theorem stF_2 (v : V) (rd : Addr) : putF "_rows" (.ref rd) ([("shape", v)] : List (Str × V)) = ([("shape", v), ("_rows", .ref rd)] : List (Str × V)) := by
  show (if ("shape" : Str) = "_rows" then [(("shape" : Str), V.ref rd)] else (("shape" : Str), v) :: putF "_rows" (.ref rd) []) = ([("shape", v), ("_rows", .ref rd)] : List (Str × V))
  rw [if_neg (by decide +kernel)]
  rfl
section
variable {κ : Type} [DecidableEq κ]
theorem put_new {kvs : List (κ × V)} {k : κ} {z : V} (h : k ∉ kvs.map (·.1)) : putK kvs k z = kvs ++ [(k, z)] := by
  unfold putK
  rw [if_neg]
  intro e
  rw [List.any_eq_true] at e
  obtain ⟨kv, m, q⟩ := e
  exact h (List.mem_map.mpr ⟨kv, m, of_decide_eq_true q⟩)
theorem val_old {kvs : List (κ × V)} {k j : κ} {z v : V} (h : valV kvs j = some v) : valV (kvs ++ [(k, z)]) j = some v := by
  unfold valV at *
  rw [List.find?_append]
  cases q : kvs.find? fun kv => decide (kv.1 = j) with
  | none => rw [q] at h; cases h
  | some u => rw [q] at h; exact h
theorem val_new {kvs : List (κ × V)} {k : κ} {z : V} (h : k ∉ kvs.map (·.1)) : valV (kvs ++ [(k, z)]) k = some z := by
  unfold valV
  rw [List.find?_append]
  have q : kvs.find? (fun kv => decide (kv.1 = k)) = none := by
    rw [List.find?_eq_none]
    intro kv m e
    exact h (List.mem_map.mpr ⟨kv, m, of_decide_eq_true e⟩)
  rw [q]
  simp
end
theorem nodup_take' {l : List Str} {i : Nat} {x : Str} (h : l.Nodup) (hx : l[i]? = some x) : x ∉ l.take i := fun m => by
  obtain ⟨hl, e⟩ := List.getElem?_eq_some_iff.mp hx
  obtain ⟨j, hj, ej⟩ := List.getElem_of_mem m
  rw [List.length_take] at hj
  rw [List.getElem_take] at ej
  have z := (List.getElem_inj (h₀ := by omega) (h₁ := hl) h).mp (ej.trans e.symm)
  omega
/-- how many rows there are -/
def total (g : Str → PyData) (ts : List Tab) : Nat := (ts.map fun t => (partsD (g t.1)).length).sum
theorem sum_total {g : Str → PyData} : ∀ ts : List Tab, (ts.map fun t => ((partsD (g t.1)).length : Int)).sum = ((total g ts : Nat) : Int)
  | [] => rfl
  | t :: ts => by
    unfold total
    rw [List.map_cons, List.sum_cons, List.map_cons, List.sum_cons, sum_total ts]
    unfold total
    omega
theorem bad_row {g : Str → PyData} {ts : List Tab} (h : firstBad g ts = none) {t : Tab} (m : t ∈ ts) : firstD t.2.length (g t.1) = none := by
  unfold firstBad at h
  rw [List.findSome?_eq_none_iff] at h
  exact Option.map_eq_none_iff.mp (h t m)
theorem firstD_row {w : Nat} {d : PyData} (h : firstD w d = none) : isRowD d = true ∧ firstWrong w (partsD d) = none := by
  unfold firstD at h
  by_cases e : isRowD d = true
  · rw [if_pos e] at h
    exact ⟨e, Option.map_eq_none_iff.mp h⟩
  · rw [if_neg e] at h
    cases h
/-- what is said of all but x -/
structure GrowX (x : Addr) (F H F' H' : Hp) : Prop where
  ff : Same F F'
  fh : Same F' H'
  hh : ∀ a o, a ≠ x → F a = none → H a = some o → F' a = none ∧ H' a = some o
  no : F' x = none
/-- the rows of a store: a dict by the names -/
def RsAt (F : Hp) (rd : Addr) (ts : List Tab) (g : Str → PyData) : Prop := ∃ kvs : List (Key × V), F rd = some (.dK kvs) ∧ kvs.map (·.1) = ts.map (fun t => (Sum.inr t.1 : Key)) ∧ ∀ t ∈ ts, ∃ v, valV kvs (Sum.inr t.1) = some v ∧ Tp F v (g t.1)
theorem RsAt.same {F F' : Hp} {rd : Addr} {ts : List Tab} {g : Str → PyData} (h : RsAt F rd ts g) (s : Same F F') : RsAt F' rd ts g := by
  obtain ⟨kvs, h1, h2, h3⟩ := h
  exact ⟨kvs, s _ _ h1, h2, fun t m => by obtain ⟨v, q1, q2⟩ := h3 t m; exact ⟨v, q1, q2.same s⟩⟩
section
variable {P : Program} {w : World} {K : PySem.W.Frag} {mg : Str → Option Value} {base : Heap} {CS CT CR CM : Addr}
def spStInit (CS CT CR : Addr) : Sp := fun vs H Q E => ∃ (F : Hp) (x dx sh rd : Addr) (ts : List Tab) (kvs : List (Key × V)) (g : Str → PyData), vs = [.ref x, .ref sh, .ref rd] ∧ H x = some (.ins CT dx []) ∧ Same F H ∧ F x = none ∧ ShT CS F sh (tsD ts) ∧ TsOk ts ∧ Rd1 F H rd kvs ts g ∧
  (∀ t i, firstBad g ts = some (t, i) → ErrPair H (.str t) (.int i) (E (.ref CR))) ∧
  (firstBad g ts = none → total g ts ≤ 300 ∧ ∀ (rd' : Addr) (F' H' : Hp), H rd' = none → GrowX x F H F' H' → H' x = some (.ins CT dx (stF sh rd')) → RsAt F' rd' ts (fun n => tupd (g n)) → Q .non H')
end
end Fm

/-! ## FmSeq2 -/
set_option Elab.async false
set_option maxRecDepth 100000
set_option maxHeartbeats 4000000
/-! Rules for what is a list or a tuple: slices, +, *. -/
namespace Fm
open PySem PySem.Spec PyProof.Rows L2
/-- t * k that is t itself -/
theorem tup_same (l : Addr) (items : Array Value) (n : Nat) (dd : Option Addr) (sl : Array (Option Value)) (x : Int) (u : Tok) (z0 : (decide (x < -(2 ^ 63)) || decide (x ≥ 2 ^ 63)) = false) (z1 : (items.isEmpty || x == 1) = true) :
    Meets (Builtin.«tuple.__mul__» ⟨[.ref l, .int x u], []⟩) (fun _ R s => s.heap.get? l = some { cls := .type "tuple", dict := dd, data := .seq items n, slots := sl } ∧ ∀ tk, R (.ok (.ret (Value.ref l))) { s with toks := tk }) :=
  .of_wp fun prog w A R s h => by
    obtain ⟨hp, g, d, tk, os⟩ := s
    obtain ⟨hl, q⟩ := h
    have f0 := AutoSeq1.idx_int
    wp_walk using wpAny_loadPart' hl
    repeat (first
      | (refine wpAny_ite_false (decide_eq_false (by rw [z0]; exact Bool.false_ne_true)) ?_; wp_walk using wpAny_loadPart' hl)
      | (refine wpAny_ite_true (decide_eq_true z1) ?_; wp_walk using wpAny_loadPart' hl))
    exact ⟨_, rfl, q _⟩
/-- t * k, t empty or k = 1: t itself -/
def rRep1 (K : PySem.W.Frag) : R2 := fun x y H Q => ∃ l k xs, x = .ref l ∧ y = .int k ∧ SqT K H l xs ∧ (xs = [] ∨ k = 1) ∧ 0 ≤ k ∧ k ≤ 1000 ∧ Q (.ref l) H
section
variable {X : Cx}
theorem op_rep1 : OpR X (binaryOp .Mult) (rRep1 X.K) := by
  intro pins s σ H x y v u Q I rx ry h
  obtain ⟨l, k, xs, rfl, rfl, hT, hc, h1, h2, q⟩ := h
  cases rx
  obtain ⟨t, rfl⟩ := ry
  obtain ⟨its, r, ⟨⟨cls, dd, data, sl⟩, ho, hcl, n, hd⟩, hs⟩ := I.tuple hT
  simp only at hcl hd
  subst hcl hd
  have z0 : (decide (k < -(2 ^ 63)) || decide (k ≥ 2 ^ 63)) = false := by
    rw [decide_eq_false (by omega), decide_eq_false (by omega)] <;> rfl
  have z1 : (its.toArray.isEmpty || k == 1) = true := by
    rcases hc with e | e
    · rw [e] at r
      cases r
      rfl
    · rw [e]
      simp
  exact wpAny_binaryOp_repeat_ref (T := "tuple") (U := "int") (by decide) ⟨_, ho, rfl⟩ (fun s2 => typeIs_int s2 k t) noFill_tuple_mul F.fills_int_mul F.slot_int_rmul repeat_tuple F.slot_int_index.lookup (call_meets F.slot_int_rmul (typeIs_int s k t) F.entry_int_rmul (F.args_int_rmul_2 _ _)
    (int_rmul_tuple k t l its.toArray n dd sl) ⟨ho, rfl, ⟨_, ho, rfl⟩, call_meets F.slot_tuple_mul ⟨_, ho, rfl⟩ F.entry_tuple_mul (F.args_tuple_mul_2 _ _) (tup_same l its.toArray n dd sl k t z0 z1) ⟨ho, fun tk => ⟨.ref l, H, I.kept (t' := tk) fun b u z => z, rfl, q⟩⟩⟩)
/-- a slice of a list or a tuple -/
theorem sl_any : SlR X (fun x lo hi H Q => rSlL X.K x lo hi H Q ∨ rSlA X.K x lo hi H Q) := SlR.or sl_list sl_tupA
/-- two lists, two tuples, one behind the other -/
theorem op_catAny : OpR X (binaryOp .Add) (fun x y H Q => rCat x y H Q ∨ rCatA X.K x y H Q) := OpR.or op_cat op_catA
/-- a list, a tuple, so many times -/
theorem op_repAny : OpR X (binaryOp .Mult) (fun x y H Q => rRep x y H Q ∨ (rRep1 X.K x y H Q ∨ rRepT X.K x y H Q)) := OpR.or op_rep (OpR.or op_rep1 op_repT)
end
/-! ### what they do to trees -/
/-- a tree of the same kind with other parts -/
def likeD (d : PyData) (ds : List PyData) : PyData := match d with
  | .list _ => .list ds
  | _ => .tuple ds
section
variable {K : PySem.W.Frag} {F H : Hp} {Q : VK}
theorem sq_lst {a : Addr} {xs : List V} (h : H a = some (.lst xs)) : SqL K H a xs := .inl (.inl h)
theorem sq_tup {a : Addr} {xs : List V} (h : H a = some (.tup xs)) : SqT K H a xs := .inl (.inl h)
theorem like_row {d : PyData} {ds : List PyData} : isRowD (likeD d ds) = true ∧ partsD (likeD d ds) = ds := by cases d <;> exact ⟨rfl, rfl⟩
theorem like_same {d : PyData} (h : isRowD d = true) : likeD d (partsD d) = d := by cases d <;> first | rfl | cases h
/-- a slice: some part of the row -/
theorem sl_tree {v : V} {d : PyData} {lo hi : Option Int} (s : Same F H) (hv : Tp F v d) (hr : isRowD d = true) (k : ∀ u F' H', Grow F H F' H' → Tp F' u (likeD d ((partsD d).drop (HT.sIx (partsD d).length 0 lo) |>.take (HT.sIx (partsD d).length (partsD d).length hi - HT.sIx (partsD d).length 0 lo))) → Q u H') :
    rSlL K v lo hi H Q ∨ rSlA K v lo hi H Q := by
  cases d with
  | list ds =>
    obtain ⟨a, xs, rfl, hx, ha⟩ := hv.list
    refine .inl ⟨a, xs, rfl, sq_lst (s _ _ hx), fun p hp => k _ _ _ (Grow.new s _ hp) (.lst upd_same ?_)⟩
    unfold cutV
    rw [ha.len]
    exact ((ha.drop _).take _).same (same_new _ (s.free hp))
  | tuple ds =>
    obtain ⟨a, xs, rfl, hx, ha⟩ := hv.tuple
    refine .inr ⟨a, xs, rfl, sq_tup (s _ _ hx), fun e => k _ _ _ (Grow.refl s) ?_, fun _ p hp => k _ _ _ (Grow.new s _ hp) (.tup upd_same ?_)⟩
    · rw [ha.len] at e
      rw [show (partsD (PyData.tuple ds)) = ds from rfl, e.1, e.2, List.drop_zero, Nat.sub_zero, List.take_length]
      exact hv
    · unfold cutV
      rw [ha.len]
      exact ((ha.drop _).take _).same (same_new _ (s.free hp))
  | _ => cases hr
/-- two rows of one kind, one behind the other -/
theorem cat_tree {v u : V} {d : PyData} {ds es : List PyData} (s : Same F H) (hv : Tp F v (likeD d ds)) (hu : Tp F u (likeD d es)) (hl : ds.length + es.length ≤ 100000) (k : ∀ w F' H', Grow F H F' H' → Tp F' w (likeD d (ds ++ es)) → Q w H') : rCat v u H Q ∨ rCatA K v u H Q := by
  have sz : ds.length + es.length ≤ sizeLine := Nat.le_of_lt (Nat.lt_of_le_of_lt hl (by decide))
  have tupc : ∀ {a b : V}, Tp F a (.tuple ds) → Tp F b (.tuple es) → (∀ w F' H', Grow F H F' H' → Tp F' w (.tuple (ds ++ es)) → Q w H') → rCatA K a b H Q := fun ha hb k => by
    obtain ⟨a, xs, rfl, hx, ta⟩ := ha.tuple
    obtain ⟨b, ys, rfl, hy, tb⟩ := hb.tuple
    refine ⟨a, b, xs, ys, rfl, rfl, sq_tup (s _ _ hx), sq_tup (s _ _ hy), by rw [ta.len, tb.len]; exact sz, fun e => ?_, fun _ e => ?_, fun _ _ p hp => k _ _ _ (Grow.new s _ hp) (.tup upd_same ((ta.app tb).same (same_new _ (s.free hp))))⟩
    · rw [e] at ta
      cases ta
      exact k _ _ _ (Grow.refl s) hb
    · rw [e] at tb
      cases tb
      rw [List.append_nil] at k
      exact k _ _ _ (Grow.refl s) ha
  cases d with
  | list zs =>
    obtain ⟨a, xs, rfl, hx, ta⟩ := (show Tp F v (.list ds) from hv).list
    obtain ⟨b, ys, rfl, hy, tb⟩ := (show Tp F u (.list es) from hu).list
    exact .inl ⟨a, b, xs, ys, rfl, rfl, s _ _ hx, s _ _ hy, by rw [ta.len, tb.len]; exact sz, fun p hp => k _ _ _ (Grow.new s _ hp) (.lst upd_same ((ta.app tb).same (same_new _ (s.free hp))))⟩
  | none => exact .inr (tupc hv hu k)
  | bool _ => exact .inr (tupc hv hu k)
  | int _ => exact .inr (tupc hv hu k)
  | str _ => exact .inr (tupc hv hu k)
  | tuple _ => exact .inr (tupc hv hu k)
  | dict _ => exact .inr (tupc hv hu k)
/-- a row so many times -/
theorem rep_tree {v : V} {d : PyData} {ds : List PyData} {c : Nat} (s : Same F H) (hv : Tp F v (likeD d ds)) (h1 : 1 ≤ c) (hc : c ≤ 100) (hl : ds.length ≤ 1000) (k : ∀ w F' H', Grow F H F' H' → Tp F' w (likeD d (List.replicate c ds).flatten) → Q w H') :
    rRep v (.int c) H Q ∨ (rRep1 K v (.int c) H Q ∨ rRepT K v (.int c) H Q) := by
  have tupc : ∀ {a : V}, Tp F a (.tuple ds) → (∀ w F' H', Grow F H F' H' → Tp F' w (.tuple (List.replicate c ds).flatten) → Q w H') → (rRep1 K a (.int c) H Q ∨ rRepT K a (.int c) H Q) := fun ha k => by
    obtain ⟨a, xs, rfl, hx, ta⟩ := ha.tuple
    by_cases e : xs = [] ∨ (c : Int) = 1
    · refine .inl ⟨a, c, xs, rfl, rfl, sq_tup (s _ _ hx), e, by omega, by omega, k _ _ _ (Grow.refl s) ?_⟩
      rcases e with e | e
      · rw [e] at ta
        cases ta
        rw [show (List.replicate c ([] : List PyData)).flatten = [] by simp]
        exact ha
      · have ec : c = 1 := by omega
        rw [ec, show (List.replicate 1 ds).flatten = ds by simp]
        exact ha
    · refine .inr ⟨a, c, xs, rfl, rfl, sq_tup (s _ _ hx), fun z => e (.inl z), ?_, by omega, by rw [ta.len]; exact hl, fun p hp => k _ _ _ (Grow.new s _ hp) (.tup upd_same ?_)⟩
      · have z : (c : Int) ≠ 1 := fun z => e (.inr z)
        omega
      · rw [Int.toNat_natCast]
        exact (ta.rep c).same (same_new _ (s.free hp))
  cases d with
  | list zs =>
    obtain ⟨a, xs, rfl, hx, ta⟩ := (show Tp F v (.list ds) from hv).list
    refine .inl ⟨a, c, xs, rfl, rfl, s _ _ hx, by omega, by omega, ?_, fun p hp => k _ _ _ (Grow.new s _ hp) (.lst upd_same ?_)⟩
    · rw [Int.toNat_natCast, ta.len]
      exact Nat.le_of_lt (Nat.lt_of_le_of_lt (Nat.mul_le_mul hl hc) (by decide))
    · rw [Int.toNat_natCast]
      exact (ta.rep c).same (same_new _ (s.free hp))
  | none => exact .inr (tupc hv k)
  | bool _ => exact .inr (tupc hv k)
  | int _ => exact .inr (tupc hv k)
  | str _ => exact .inr (tupc hv k)
  | tuple _ => exact .inr (tupc hv k)
  | dict _ => exact .inr (tupc hv k)
end
end Fm

/-! ## FmUnl2 -/
set_option Elab.async false
set_option maxRecDepth 100000
set_option maxHeartbeats 4000000
/-! A text == anything of a tree. -/
namespace Fm
open PySem PySem.Spec PyProof.Rows L2
theorem sub_str_dict : isSubtype (Value.type "str") (Value.type "dict") = pure false := by rfl
theorem sub_dict_str : isSubtype (Value.type "dict") (Value.type "str") = pure false := by rfl
theorem str_eq_dict (b : Str) (u : Tok) (l : Addr) (es : Array DictEntry) (ep : Nat) :
    Meets (Builtin.«str.__eq__» ⟨[.str b u, .ref l], []⟩) (fun _ R s => s.heap.get? l = some { cls := .type "dict", dict := none, data := .dict es ep, slots := #[] } ∧ R (.ok (.ret Value.notImplemented)) s) :=
  .of_wp fun prog w A R s h => by
    obtain ⟨hp, g, d, tk, os⟩ := s
    obtain ⟨hl, q⟩ := h
    wp_walk using wpAny_loadPart' hl
    exact ⟨_, rfl, q⟩
theorem dict_eq_str (b : Str) (u : Tok) (l : Addr) (es : Array DictEntry) (ep : Nat) :
    Meets (Builtin.«dict.__eq__» ⟨[.ref l, .str b u], []⟩) (fun _ R s => s.heap.get? l = some { cls := .type "dict", dict := none, data := .dict es ep, slots := #[] } ∧ R (.ok (.ret Value.notImplemented)) s) :=
  .of_wp fun prog w A R s h => by
    obtain ⟨hp, g, d, tk, os⟩ := s
    obtain ⟨hl, q⟩ := h
    have f0 := sub_str_dict
    wp_walk using wpAny_loadPart' hl
    exact ⟨_, rfl, q⟩
/-- is it this text -/
def isStrD (s : Str) : PyData → Bool
  | .str z => decide (s = z)
  | _ => false
/-- a text == any tree -/
def rEqT : R2 := fun x y H Q => ∃ (s : Str) (d : PyData), x = .str s ∧ Tp H y d ∧ Q (.bl (isStrD s d)) H
theorem op_eqT {X : Cx} (hu : X.A.units + 64 < cLine) : OpR X (compareOp .Eq) rEqT := by
  intro pins s σ H x y v u Q I rx ry h
  obtain ⟨z, d, rfl, ht, q⟩ := h
  have hu1 : X.A.units < cLine := by omega
  have flat : ∀ {b : Bool}, scal (.str z) y = true → decide (V.str z = y) = b → Q (.bl b) H → wpAny (model X.prog X.w) X.A (compareOp .Eq v u) (EP X pins σ Q) X.xe s := fun {b} h1 h2 h3 => op_eq pins s σ H (.str z) y v u Q I rx ry ⟨h1, by rw [h2]; exact h3⟩
  cases ht with
  | non => exact flat rfl (decide_eq_false fun e => nomatch e) q
  | bl b => exact flat rfl (decide_eq_false fun e => nomatch e) q
  | int i => exact flat rfl (decide_eq_false fun e => nomatch e) q
  | str w => exact flat rfl (by show decide (V.str z = V.str w) = decide (z = w); exact decide_eq_decide.mpr ⟨V.str.inj, fun e => by rw [e]⟩) q
  | @lst a xs ds hx ha =>
    obtain ⟨t, rfl⟩ := rx
    cases ry
    obtain ⟨its, r, pl, hs⟩ := I.list (.inl (.inl hx))
    obtain ⟨⟨cls, dd, data, sl⟩, ho, hcl, n, hd⟩ : s.heap.IsList a its.toArray := by first | exact pl.isList | exact pl.list | exact pl.1 | (obtain ⟨o, h1, h2, h3, h4⟩ := pl; exact ⟨o, h1, h2, h4⟩) | (obtain ⟨o, h1, h2, h3⟩ := pl; exact ⟨o, h1, h2, h3⟩)
    simp only at hcl hd
    subst hcl hd
    exact SeqAt.rc_eq_decline_or (typeIs_str s z t) ⟨_, ho, rfl⟩ (by decide) F.sub_list_str F.slot_str_eq F.slot_list_eq_refl (fun Q' q' => call_meets F.slot_str_eq (typeIs_str s z t) F.entry_str_eq (F.args_str_eq_2 _ _) (SeqAt.str_eq_declines_seq_str z t a _ _ _ _ _) ⟨ho, q'⟩)
      (fun Q' q' => call_meets F.slot_list_eq ⟨_, ho, rfl⟩ F.entry_list_eq (F.args_list_eq_2 _ _) (SeqAt.list_eq_declines_str a _ _ _ _ z t) ⟨ho, q'⟩) (fun Q' q' => wpAny_pure q') (.inr hu1) ⟨.bl false, H, I, rfl, q⟩
  | @tup a xs ds hx ha =>
    obtain ⟨t, rfl⟩ := rx
    cases ry
    obtain ⟨its, r, ⟨⟨cls, dd, data, sl⟩, ho, hcl, n, hd⟩, hs⟩ := I.tuple (.inl (.inl hx))
    simp only at hcl hd
    subst hcl hd
    exact SeqAt.rc_eq_decline_or (typeIs_str s z t) ⟨_, ho, rfl⟩ (by decide) F.sub_tuple_str F.slot_str_eq F.slot_tuple_eq_refl (fun Q' q' => call_meets F.slot_str_eq (typeIs_str s z t) F.entry_str_eq (F.args_str_eq_2 _ _) (SeqAt.str_eq_declines_seq_str z t a _ _ _ _ _) ⟨ho, q'⟩)
      (fun Q' q' => call_meets F.slot_tuple_eq ⟨_, ho, rfl⟩ F.entry_tuple_eq (F.args_tuple_eq_2 _ _) (SeqAt.tuple_eq_declines_str a _ _ _ _ z t) ⟨ho, q'⟩) (fun Q' q' => wpAny_pure q') (.inr hu1) ⟨.bl false, H, I, rfl, q⟩
  | @dct a kvs es0 hk _ _ =>
    obtain ⟨t, rfl⟩ := rx
    cases ry
    obtain ⟨_, _, vs, _, o, es, ep, ho, ⟨hc, hd, hsl⟩, hda, _⟩ := dk_of I.hok hk
    obtain ⟨cls, dd, data, sl⟩ := o
    simp only at hc hd hsl hda
    subst hc hd hsl hda
    exact SeqAt.rc_eq_decline_or (typeIs_str s z t) ⟨_, ho, rfl⟩ (by decide) sub_dict_str F.slot_str_eq F.slot_dict_eq_refl (fun Q' q' => call_meets F.slot_str_eq (typeIs_str s z t) F.entry_str_eq (F.args_str_eq_2 _ _) (str_eq_dict z t a _ _) ⟨ho, q'⟩)
      (fun Q' q' => call_meets F.slot_dict_eq ⟨_, ho, rfl⟩ F.entry_dict_eq (F.args_dict_eq_2 _ _) (dict_eq_str z t a _ _) ⟨ho, q'⟩) (fun Q' q' => wpAny_pure q') (.inr hu1) ⟨.bl false, H, I, rfl, q⟩
end Fm

/-! ## K32V -/
set_option Elab.async false
set_option maxRecDepth 100000
set_option maxHeartbeats 4000000
namespace Fm
open PySem L2
/-! ### what a store answers -/
/-- a store of the tables ts with the rows g stands at a -/
def StAt (CS CT : Addr) (F : Hp) (a : Addr) (ts : List Tab) (g : Str → PyData) : Prop := ∃ dx sh rd, F a = some (.ins CT dx (stF sh rd)) ∧ ShT CS F sh (tsD ts) ∧ RsAt F rd ts g
theorem StAt.same {CS CT : Addr} {F F' : Hp} {a : Addr} {ts : List Tab} {g : Str → PyData} (h : StAt CS CT F a ts g) (s : Same F F') : StAt CS CT F' a ts g := by
  obtain ⟨dx, sh, rd, h1, h2, h3⟩ := h
  exact ⟨dx, sh, rd, s _ _ h1, h2.same s, h3.same s⟩
theorem strD_of {s : Str} {d : PyData} (h : isStrD s d = true) : d = .str s := by
  cases d with
  | str z => exact congrArg PyData.str (of_decide_eq_true h).symm
  | _ => cases h
theorem strD_no {s : Str} {d : PyData} (h : isStrD s d = false) : d ≠ .str s := fun e => by
  rw [e] at h
  exact absurd (of_decide_eq_false h) (fun z => z rfl)
/-- no table has this name -/
def NoName (d : PyData) (ts : List Tab) : Prop := ∀ t ∈ ts, d ≠ .str t.1
section
variable {P : Program} {w : World} {K : PySem.W.Frag} {mg : Str → Option Value} {base : Heap} {CS CT CR CN CM : Addr}
/-- an error that holds what was given -/
def ErrVal (H : Hp) (v : V) (E : Option Addr → Hp → Prop) : Prop := ∀ (d : Addr), H d = none → E (some d) (upd H d (.xd [("value", v)]))
def spFieldsE (CS CN : Addr) : Sp := fun vs H Q E => ∃ (F : Hp) (sh : Addr) (v : V) (d : PyData) (ts : List Tab), vs = [.ref sh, v] ∧ Same F H ∧ Tp F v d ∧ siz d ≤ 100000 ∧ ShT CS F sh (tsD ts) ∧ TsOk ts ∧ (∀ t ∈ ts, d = .str t.1 → ∀ u, Tp F u (.tuple (t.2.map PyData.str)) → Q u H) ∧ (NoName d ts → ErrVal H v (E (.ref CN)))
/-- n is the name of one of the tables -/
def spRowsOf (CS CT CN : Addr) : Sp := fun vs H Q E => ∃ (F : Hp) (a : Addr) (v : V) (d : PyData) (ts : List Tab) (g : Str → PyData), vs = [.ref a, v] ∧ Same F H ∧ Tp F v d ∧ siz d ≤ 100000 ∧ StAt CS CT F a ts g ∧ TsOk ts ∧ (∀ t ∈ ts, isRowD (g t.1) = true) ∧
  (∀ t ∈ ts, d = .str t.1 → ∀ (p : Addr) (xs : List V), H p = none → TpAll F xs (partsD (g t.1)) → Q (.ref p) (upd H p (.lst xs))) ∧ (NoName d ts → ErrVal H v (E (.ref CN)))
end
end Fm

/-! ## K32W -/
set_option Elab.async false
set_option maxRecDepth 100000
set_option maxHeartbeats 4000000
namespace Fm
open PySem L2
theorem ErrPair.sub {H H2 : Hp} {v i : V} {E : Option Addr → Hp → Prop} (h : ErrPair H v i E) (s : Same H H2) : ErrPair H2 v i E := fun d tp H' q n n2 => h d tp H' (s.trans q) (s.free n) (s.free n2)
/-- a store whose rows are new behind H -/
def StNew (CS CT : Addr) (H F : Hp) (a : Addr) (ts : List Tab) (g : Str → PyData) : Prop := H a = none ∧ ∃ dx sh rd, H rd = none ∧ F a = some (.ins CT dx (stF sh rd)) ∧ ShT CS F sh (tsD ts) ∧ RsAt F rd ts g
theorem StNew.at_ {CS CT : Addr} {H F : Hp} {a : Addr} {ts : List Tab} {g : Str → PyData} (h : StNew CS CT H F a ts g) : StAt CS CT F a ts g := by
  obtain ⟨_, dx, sh, rd, _, h1, h2, h3⟩ := h
  exact ⟨dx, sh, rd, h1, h2, h3⟩
/-- a store is made of a shape and a dict of rows -/
theorem store_make {CS CT CR : Addr} {F0 H : Hp} {x dx sh rd : Addr} {ts : List Tab} {kvs : List (Key × V)} {g : Str → PyData} {R : Hp → Prop} {E : XK} (sF : Same F0 H) (shA : ShT CS F0 sh (tsD ts)) (ok : TsOk ts) (rs : Rd1 F0 H rd kvs ts g) (nx : H x = none) (nd : H dx = none) (ne : dx ≠ x)
    (kE : ∀ t i, firstBad g ts = some (t, i) → ErrPair H (.str t) (.int i) (E (.ref CR))) (kQ : firstBad g ts = none → total g ts ≤ 300 ∧ ∀ F' H', Grow F0 H F' H' → StNew CS CT H F' x ts (fun n => tupd (g n)) → R H') :
    spStInit CS CT CR [.ref x, .ref sh, .ref rd] (upd (upd H dx (.own x)) x (.ins CT dx [])) (fun z H' => z = .non ∧ R H') E := by
  have s1 : Same H (upd (upd H dx (.own x)) x (.ins CT dx [])) := fun a o e => by
    rw [upd_ne (ne_of_none e nx), upd_ne (ne_of_none e nd)]
    exact e
  refine ⟨F0, x, dx, sh, rd, ts, kvs, g, rfl, upd_same, sF.trans s1, sF.free nx, shA, ok, ⟨s1 _ _ rs.at_, rs.no, rs.len, rs.key, rs.ex, rs.sz, rs.dp⟩, fun t i e => (kE t i e).sub s1, fun hfb => ⟨(kQ hfb).1, fun rd' F' H' nrd gx hx rsA => ⟨rfl, ?_⟩⟩⟩
  have sX : Same F' (upd F' x (.ins CT dx (stF sh rd'))) := same_new _ gx.no
  refine (kQ hfb).2 _ _ ⟨gx.ff.trans sX, fun a o e => ?_, fun a o e1 e2 => ?_⟩ ⟨nx, dx, sh, rd', s1.free nrd, upd_same, shA.same (gx.ff.trans sX), rsA.same sX⟩
  · by_cases z : a = x
    · rw [z, upd_same] at e
      rw [z, hx]
      exact e
    · rw [upd_ne z] at e
      exact gx.fh _ _ e
  · have n := ne_of_none e2 nx
    obtain ⟨z1, z2⟩ := gx.hh a o n e1 (s1 _ _ e2)
    rw [upd_ne n]
    exact ⟨z1, z2⟩
theorem keys_put {kvs : List (Key × V)} {k : Key} {z : V} (h : k ∈ kvs.map (·.1)) : (putK kvs k z).map (·.1) = kvs.map (·.1) := by
  unfold putK
  obtain ⟨kv, m, e⟩ := List.mem_map.mp h
  rw [if_pos (List.any_eq_true.mpr ⟨kv, m, decide_eq_true e⟩), List.map_map]
  refine List.map_congr_left fun u _ => ?_
  show (if u.1 = k then (u.1, z) else u).1 = u.1
  by_cases q : u.1 = k
  · rw [if_pos q]
  · rw [if_neg q]
end Fm

/-! ## FmDict -/
set_option Elab.async false
set_option maxRecDepth 100000
set_option maxHeartbeats 4000000
/-! == and != of two dicts whose values are plain data at any depth. -/
theorem L2.Room.units66 {k : Nat} {A : PySem.Around} (r : L2.Room k A) : A.units + 66 < PySem.cLine := by have := r.un; omega
namespace Fm
open PySem PySem.Spec PyProof.Rows L2
/-- the pairs of a dict, its values as data -/
inductive KD (K : PySem.W.Frag) (H : Hp) : List (Key × V) → List (Key × PyData) → Prop
  | nil : KD K H [] []
  | cons {k : Key} {v : V} {d : PyData} {kvs : List (Key × V)} {ms : List (Key × PyData)} : Dp K H v d → SeqAt.shaped d = true → KD K H kvs ms → KD K H ((k, v) :: kvs) ((k, d) :: ms)
def valD (ns : List (Key × PyData)) (k : Key) : Option PyData := (ns.find? fun p => decide (p.1 = k)).map (·.2)
def hitD (ns : List (Key × PyData)) (p : Key × PyData) : Bool := match valD ns p.1 with
  | some e => PyData.eqv p.2 e
  | none => false
def eqKD (ms ns : List (Key × PyData)) : Bool := ms.length == ns.length && ms.all (hitD ns)
theorem KD.len {K : PySem.W.Frag} {H : Hp} {kvs : List (Key × V)} {ms : List (Key × PyData)} (h : KD K H kvs ms) : kvs.length = ms.length := by
  induction h with
  | nil => rfl
  | cons _ _ _ ih => rw [List.length_cons, List.length_cons, ih]
theorem KD.val {K : PySem.W.Frag} {H : Hp} {kvs : List (Key × V)} {ms : List (Key × PyData)} (h : KD K H kvs ms) (k : Key) : (valV kvs k = none ∧ valD ms k = none) ∨ ∃ v d, valV kvs k = some v ∧ valD ms k = some d ∧ Dp K H v d ∧ SeqAt.shaped d = true := by
  induction h with
  | nil => exact .inl ⟨rfl, rfl⟩
  | @cons k2 v d kvs ms h1 h2 _ ih =>
    unfold valV valD at *
    by_cases q : k2 = k
    · rw [List.find?_cons_of_pos (by simp [q]), List.find?_cons_of_pos (by simp [q])]
      exact .inr ⟨v, d, rfl, rfl, h1, h2⟩
    · rw [List.find?_cons_of_neg (by simp [q]), List.find?_cons_of_neg (by simp [q])]
      exact ih
theorem kd_hits {X : Cx} {pins : List (Addr × Obj)} {σ : L2.St} {H : Hp} {s : Shared} {A : Around} (I : Inv X pins σ H s) (hu : A.in1.units + 64 < cLine) {ls : List (Key × V)} {ns : List (Key × PyData)} (hb : KD X.K H ls ns) {vb : List (Key × Value)} (rb : KV ls vb) {ks : List (Key × V)} {ms : List (Key × PyData)}
    (ha : KD X.K H ks ms) : ∀ {va : List (Key × Value)}, KV ks va → PySem.W.KeqHits A.in1 s vb va (ms.all (hitD ns)) := by
  induction ha with
  | nil =>
    intro va ra
    unfold KV at ra
    cases ra
    exact .nil
  | @cons k v d kvs ms h1 h2 _ ih =>
    intro va ra
    unfold KV at ra
    cases ra with
    | @cons _ q _ qs h t =>
    obtain ⟨e1, e2⟩ := h
    obtain ⟨key, u⟩ := q
    have e1' : k = key := e1
    subst e1'
    rw [List.all_cons]
    rcases hb.val k with ⟨z1, z2⟩ | ⟨y, e, z1, z2, z3, z4⟩
    · have rr := rb.val k
      rw [z1] at rr
      have hn : valueAt vb k = none := by
        cases q : valueAt vb k with
        | none => rfl
        | some z =>
          rw [q] at rr
          cases rr
      have hh : hitD ns (k, d) = false := by
        unfold hitD
        rw [show valD ns ((k, d) : Key × PyData).1 = none from z2]
      rw [hh, Bool.false_and]
      exact .miss hn
    · have rr : RelO (some y) (valueAt vb k) := by
        rw [← z1]
        exact rb.val k
      obtain ⟨z, hz, rz⟩ := rr.some_of
      have hh : hitD ns (k, d) = PyData.eqv d e := by
        unfold hitD
        rw [show valD ns ((k, d) : Key × PyData).1 = some e from z2]
      rw [hh]
      obtain ⟨as, r1⟩ := Dp.reads I d v u h1 e2
      obtain ⟨bs, r2⟩ := Dp.reads I e y z z3 rz
      exact .hit hz (PySem.W.keq_at r1 r2 h2 z4 hu) (ih t)
section
variable {X : Cx}
/-- a == b, two dicts of data -/
def rEqK (K : PySem.W.Frag) : R2 := fun x y H Q => ∃ a b ks ls ms ns, x = .ref a ∧ y = .ref b ∧ H a = some (.dK ks) ∧ H b = some (.dK ls) ∧ KD K H ks ms ∧ KD K H ls ns ∧ Q (.bl (eqKD ms ns)) H
def rNeK (K : PySem.W.Frag) : R2 := fun x y H Q => ∃ a b ks ls ms ns, x = .ref a ∧ y = .ref b ∧ H a = some (.dK ks) ∧ H b = some (.dK ls) ∧ KD K H ks ms ∧ KD K H ls ns ∧ Q (.bl (!eqKD ms ns)) H
theorem op_eqK (hu : X.A.units + 66 < cLine) : OpR X (compareOp .Eq) (rEqK X.K) := by
  intro pins s σ H x y v u Q I rx ry h
  obtain ⟨a, b, ks, ls, ms, ns, rfl, rfl, ea, eb, ha, hb, q⟩ := h
  obtain rfl : v = Value.ref a := rx
  obtain rfl : u = Value.ref b := ry
  obtain ⟨_, ya, va, ra, da⟩ := (show ObjOk X.prog X.w H s.heap a (.dK ks) from I.hok a _ ea)
  obtain ⟨_, yb, vb, rb, db⟩ := (show ObjOk X.prog X.w H s.heap b (.dK ls) from I.hok b _ eb)
  refine PySem.W.keq_eq (knd := mixKind X.prog X.w) (r := ms.all (hitD ns)) ya yb da db (by omega) (fun _ => kd_hits I (by show X.A.units + 1 + 64 < cLine; omega) hb rb ha ra) ⟨.bl _, H, I, ?_, q⟩
  show Value.bool _ = Value.bool _
  have e1 := ra.length
  have e2 := rb.length
  rw [ha.len] at e1
  rw [hb.len] at e2
  unfold eqKD
  rw [e1, e2]
theorem op_neK (hu : X.A.units + 66 < cLine) : OpR X (compareOp .NotEq) (rNeK X.K) := by
  intro pins s σ H x y v u Q I rx ry h
  obtain ⟨a, b, ks, ls, ms, ns, rfl, rfl, ea, eb, ha, hb, q⟩ := h
  obtain rfl : v = Value.ref a := rx
  obtain rfl : u = Value.ref b := ry
  obtain ⟨_, ya, va, ra, da⟩ := (show ObjOk X.prog X.w H s.heap a (.dK ks) from I.hok a _ ea)
  obtain ⟨_, yb, vb, rb, db⟩ := (show ObjOk X.prog X.w H s.heap b (.dK ls) from I.hok b _ eb)
  refine PySem.W.keq_ne (knd := mixKind X.prog X.w) (r := ms.all (hitD ns)) ya yb da db (by omega) (fun _ => kd_hits I (by show X.A.units + 1 + 64 < cLine; omega) hb rb ha ra) ⟨.bl _, H, I, ?_, q⟩
  show Value.bool _ = Value.bool _
  have e1 := ra.length
  have e2 := rb.length
  rw [ha.len] at e1
  rw [hb.len] at e2
  unfold eqKD
  rw [e1, e2]
end
end Fm

/-! ## FmFrame2 -/
set_option Elab.async false
set_option maxRecDepth 100000
set_option maxHeartbeats 4000000
/-! A part G of what is tracked, F; data that no list is in; data as the library's plain data. -/
namespace Fm
open PySem L2
theorem uni_r {N M : Hp} {a : Addr} (h : N a = none) : uni N M a = M a := by
  unfold uni
  rw [h]
theorem uni_l {N M : Hp} {a : Addr} {o : HO} (h : N a = some o) : uni N M a = some o := by
  unfold uni
  rw [h]
/-- a part grows by what leaves all else as it stands -/
theorem Grow.under {G F H G' H' : Hp} {b : Addr} (s : Same G F) (B : Bag F H b) (g : Grow G H G' H') : ∃ F', Grow G F G' F' ∧ Bag F' H' b := by
  obtain ⟨fh, fb, cl, ns, p, gg, z, c, h, e1, e2, e3, e4, r⟩ := B
  have no : ∀ a o, F a = none → H a = some o → G' a = none ∧ H' a = some o := fun a o h1 h2 => g.hh a o (s.free h1) h2
  have keep : ∀ a o, F a = some o → uni G' F a = some o := fun a o h => by
    cases q : G a with
    | some u =>
      have z := s a u q
      rw [h] at z
      rw [z]
      exact uni_l (g.ff _ _ q)
    | none => rw [uni_r (g.hh a o q (fh _ _ h)).1]; exact h
  refine ⟨uni G' F, ⟨g.ff, same_uni, fun a o h1 h2 => ⟨(g.hh a o h1 (fh _ _ h2)).1, keep a o h2⟩⟩, fun a o e => ?_, ?_, cl, ns, p, gg, z, c, h, ?_, e2, (no _ _ e1 e3).2, (no _ _ fb e4).2, r⟩
  · rcases uni_or e with e | ⟨q, e⟩
    · exact g.fh _ _ e
    · cases q2 : G a with
      | some u =>
        rw [g.ff _ _ q2] at q
        cases q
      | none => exact (g.hh a o q2 (fh _ _ e)).2
  · rw [uni_r (no _ _ fb e4).1]
    exact fb
  · rw [uni_r (no _ _ e1 e3).1]
    exact e1
/-- what is in the part only for a while -/
theorem Grow.out {G F G' F' : Hp} {h : Addr} {x : HO} (g : Grow (upd G h x) (upd F h x) G' F') (fh : F h = none) (gh : G h = none) : Grow G F (cut G' h) F' := by
  refine ⟨same_cut ((same_new x gh).trans g.ff) gh, cut_sub.trans g.fh, fun a o h1 h2 => ?_⟩
  have n := ne_of_none h2 fh
  obtain ⟨z1, z2⟩ := g.hh a o (by rw [upd_ne n]; exact h1) (by rw [upd_ne n]; exact h2)
  exact ⟨by rw [cut_ne n]; exact z1, z2⟩
/-- a place that the part does not speak of -/
theorem Grow.side {G F G' F' : Hp} {D : Addr} {o : HO} (g : Grow G F G' F') (h : G' D = none) (hF : F D = none) : Grow G F G' (upd F' D o) := g.junk h hF o
/-- what was new becomes a part of what is spoken of -/
theorem Grow.take {G F G' F' : Hp} {D : Addr} (g : Grow G F G' F') (hF : F D = none) (hG : G D = none) (o : HO) : Grow G F (upd G' D o) (upd F' D o) := by
  refine ⟨fun a u e => ?_, same_upd g.fh D o, fun a u e1 e2 => ?_⟩
  · rw [upd_ne (ne_of_none e hG)]
    exact g.ff _ _ e
  · have n := ne_of_none e2 hF
    rw [upd_ne n, upd_ne n]
    exact g.hh a u e1 e2
theorem Bag.late {F H H' : Hp} {b p : Addr} {o : HO} (B : Bag F H b) (hp : H p = none) (s : Same H H') (e : H' p = some o) : Bag (upd F p o) H' b := by
  refine bag_same (B.new o hp) fun a u q => ?_
  by_cases z : a = p
  · rw [z, upd_same] at q
    rw [z, e]
    exact q
  · rw [upd_ne z] at q
    exact s _ _ q
/-! ### data without lists -/
mutual
def noL : PyData → Bool
  | .list _ => false
  | .dict _ => false
  | .tuple ds => noLs ds
  | _ => true
def noLs : List PyData → Bool
  | [] => true
  | d :: ds => noL d && noLs ds
end
mutual
theorem Tp.cut {F : Hp} {h : Addr} {l : List V} (e : F h = some (.lst l)) : ∀ {d : PyData} {v : V}, Tp F v d → noL d = true → Tp (cut F h) v d
  | .none, _, h, _ => by cases h; exact .non
  | .bool b, _, h, _ => by cases h; exact .bl b
  | .int i, _, h, _ => by cases h; exact .int i
  | .str x, _, h, _ => by cases h; exact .str x
  | .list ds, _, _, n => by cases n
  | .dict _, _, _, n => by cases n
  | .tuple ds, _, t, n => by
    cases t with
    | tup hs ha =>
      refine .tup ?_ (TpAll.cut e ha n)
      rw [cut_ne fun z => by rw [z, e] at hs; cases hs]
      exact hs
theorem TpAll.cut {F : Hp} {h : Addr} {l : List V} (e : F h = some (.lst l)) : ∀ {ds : List PyData} {vs : List V}, TpAll F vs ds → noLs ds = true → TpAll (cut F h) vs ds
  | [], _, h, _ => by cases h; exact .nil
  | d :: ds, _, t, n => by
    cases t with
    | cons h1 h2 =>
      have n' : (noL d && noLs ds) = true := n
      rw [Bool.and_eq_true] at n'
      exact .cons (Tp.cut e h1 n'.1) (TpAll.cut e h2 n'.2)
end
theorem noLs_all : ∀ {ds : List PyData}, (∀ d ∈ ds, noL d = true) → noLs ds = true
  | [], _ => rfl
  | d :: ds, h => by
    show (noL d && noLs ds) = true
    rw [h d List.mem_cons_self, noLs_all fun c m => h c (List.mem_cons_of_mem _ m)]
    rfl
/-! ### plain data -/
mutual
def noD : PyData → Bool
  | .list ds => noDs ds
  | .dict _ => false
  | .tuple ds => noDs ds
  | _ => true
def noDs : List PyData → Bool
  | [] => true
  | d :: ds => noD d && noDs ds
end
mutual
theorem Tp.plain {K : PySem.W.Frag} {F : Hp} : ∀ {d : PyData} {v : V}, Tp F v d → noD d = true → Dp K F v d
  | .none, _, h, _ => by cases h; exact .non
  | .bool b, _, h, _ => by cases h; exact .bl b
  | .int i, _, h, _ => by cases h; exact .int i
  | .str x, _, h, _ => by cases h; exact .str x
  | .dict _, _, _, n => by cases n
  | .list ds, _, t, n => by
    cases t with
    | lst hs ha => exact .lst (.inl (.inl hs)) (TpAll.plain ha n)
  | .tuple ds, _, t, n => by
    cases t with
    | tup hs ha => exact .tup (.inl (.inl hs)) (TpAll.plain ha n)
theorem TpAll.plain {K : PySem.W.Frag} {F : Hp} : ∀ {ds : List PyData} {vs : List V}, TpAll F vs ds → noDs ds = true → DpAll K F vs ds
  | [], _, h, _ => by cases h; exact .nil
  | d :: ds, _, t, n => by
    cases t with
    | cons h1 h2 =>
      have n' : (noD d && noDs ds) = true := n
      rw [Bool.and_eq_true] at n'
      exact .cons (Tp.plain h1 n'.1) (TpAll.plain h2 n'.2)
end
theorem noDs_all : ∀ {ds : List PyData}, (∀ d ∈ ds, noD d = true) → noDs ds = true
  | [], _ => rfl
  | d :: ds, h => by
    show (noD d && noDs ds) = true
    rw [h d List.mem_cons_self, noDs_all fun c m => h c (List.mem_cons_of_mem _ m)]
    rfl
end Fm

/-! ## K32J -/
set_option Elab.async false
set_option maxRecDepth 100000
set_option maxHeartbeats 4000000
namespace Fm
open PySem L2
/-! ### shapes, as plain data -/
theorem strOk_nm {s : Str} (h : isNm s = true) : PyData.strOk s = true := by
  unfold isNm at h
  simp only [Bool.and_eq_true, List.all_eq_true, decide_eq_true_eq] at h
  show s.cps.all (· < 0x110000) = true
  rw [← Array.all_toList, List.all_eq_true]
  intro c m
  have q := h.2 c m
  exact decide_eq_true (by omega)
theorem canLay_strs : ∀ {xs : List Str}, (∀ f ∈ xs, isNm f = true) → PyData.canLayAll0 (xs.map PyData.str) = true
  | [], _ => rfl
  | x :: xs, h => by
    show (PyData.strOk x && PyData.canLayAll0 (xs.map PyData.str)) = true
    rw [strOk_nm (h x List.mem_cons_self), canLay_strs fun f m => h f (List.mem_cons_of_mem _ m)]
    rfl
theorem depth_strs : ∀ (xs : List Str), PyData.depthAll (xs.map PyData.str) = 0
  | [] => rfl
  | x :: xs => by
    show max 0 (PyData.depthAll (xs.map PyData.str)) = 0
    rw [depth_strs xs]
    rfl
theorem canLay_tabs : ∀ {ts : List Tab}, (∀ t ∈ ts, TOk t) → PyData.canLayAll0 (ts.map (tabD false)) = true
  | [], _ => rfl
  | t :: ts, h => by
    have ok := h t List.mem_cons_self
    show ((PyData.strOk t.1 && (PyData.canLayAll0 (t.2.map PyData.str) && true)) && PyData.canLayAll0 (ts.map (tabD false))) = true
    rw [strOk_nm ok.nm, canLay_strs ok.fs.nm, canLay_tabs fun u m => h u (List.mem_cons_of_mem _ m)]
    rfl
theorem depth_tabs : ∀ (ts : List Tab), PyData.depthAll (ts.map (tabD false)) ≤ 2
  | [] => Nat.zero_le _
  | t :: ts => by
    show max (max 0 (max (PyData.depthAll (t.2.map PyData.str) + 1) 0) + 1) (PyData.depthAll (ts.map (tabD false))) ≤ 2
    have ih := depth_tabs ts
    rw [depth_strs]
    omega
theorem shaped_tabs {ts : List Tab} (h : ∀ t ∈ ts, TOk t) : SeqAt.shaped (tsD ts) = true := by
  have d := depth_tabs ts
  show (PyData.canLayAll0 (ts.map (tabD false)) && decide (PyData.depthAll (ts.map (tabD false)) + 1 ≤ 64)) = true
  rw [canLay_tabs h, decide_eq_true (by omega)]
  rfl
theorem noDs_strs : ∀ xs : List Str, noDs (xs.map PyData.str) = true := fun xs => noDs_all fun d m => by
  obtain ⟨_, _, rfl⟩ := List.mem_map.mp m
  rfl
theorem noD_tabs (ts : List Tab) : noD (tsD ts) = true := by
  show noDs (ts.map (tabD false)) = true
  refine noDs_all fun d m => ?_
  obtain ⟨t, _, rfl⟩ := List.mem_map.mp m
  show (true && (noDs (t.2.map PyData.str) && true)) = true
  rw [noDs_strs]
  rfl
theorem noL_tabs (ts : List Tab) : noL (tsD ts) = true := by
  show noLs (ts.map (tabD false)) = true
  refine noLs_all fun d m => ?_
  obtain ⟨t, _, rfl⟩ := List.mem_map.mp m
  have z : noLs (t.2.map PyData.str) = true := noLs_all fun d m => by
    obtain ⟨_, _, rfl⟩ := List.mem_map.mp m
    rfl
  show (true && (noLs (t.2.map PyData.str) && true)) = true
  rw [z]
  rfl
/-! ### rows of numbers -/
def rowD (r : List Int) : PyData := .tuple (r.map PyData.int)
def gT (R : Str → List (List Int)) : Str → PyData := fun n => .tuple ((R n).map rowD)
def gL (R : Str → List (List Int)) : Str → PyData := fun n => .list ((R n).map rowD)
def goodR (w : Nat) (r : List Int) : Prop := r.length = w ∧ ∀ z ∈ r, -1000000000 ≤ z ∧ z ≤ 1000000000
/-- rows for all tables, at most N for each -/
def Rok (ts : List Tab) (R : Str → List (List Int)) (N : Nat) : Prop := ∀ t ∈ ts, (R t.1).length ≤ N ∧ ∀ r ∈ R t.1, goodR t.2.length r
def setR (R : Str → List (List Int)) (n : Str) (rs : List (List Int)) : Str → List (List Int) := fun m => if m = n then rs else R m
theorem eqv_row (r s : List Int) : PyData.eqv (rowD r) (rowD s) = decide (r = s) := PySem.W.ked_eqvAll r s
theorem eqv_rows : ∀ (xs ys : List (List Int)), PyData.eqvAll (xs.map rowD) (ys.map rowD) = decide (xs = ys)
  | [], [] => rfl
  | [], _ :: _ => rfl
  | _ :: _, [] => rfl
  | x :: xs, y :: ys => by
    show (PyData.eqv (rowD x) (rowD y) && PyData.eqvAll (xs.map rowD) (ys.map rowD)) = decide (x :: xs = y :: ys)
    rw [eqv_row, eqv_rows xs ys]
    by_cases h1 : x = y
    · by_cases h2 : xs = ys <;> simp [h1, h2]
    · simp [h1]
theorem can_ints : ∀ (r : List Int), PyData.canLayAll0 (r.map PyData.int) = true
  | [] => rfl
  | x :: r => by
    show (true && PyData.canLayAll0 (r.map PyData.int)) = true
    rw [can_ints r]
    rfl
theorem dp_ints : ∀ (r : List Int), PyData.depthAll (r.map PyData.int) = 0
  | [] => rfl
  | x :: r => by
    show max 0 (PyData.depthAll (r.map PyData.int)) = 0
    rw [dp_ints r]
    rfl
theorem can_rows : ∀ (xs : List (List Int)), PyData.canLayAll0 (xs.map rowD) = true
  | [] => rfl
  | x :: xs => by
    show (PyData.canLayAll0 (x.map PyData.int) && PyData.canLayAll0 (xs.map rowD)) = true
    rw [can_ints, can_rows xs]
    rfl
theorem dp_rows : ∀ (xs : List (List Int)), PyData.depthAll (xs.map rowD) ≤ 1
  | [] => Nat.zero_le _
  | x :: xs => by
    show max (PyData.depthAll (x.map PyData.int) + 1) (PyData.depthAll (xs.map rowD)) ≤ 1
    have z := dp_rows xs
    rw [dp_ints]
    omega
theorem shaped_rowsT (R : Str → List (List Int)) (n : Str) : SeqAt.shaped (gT R n) = true := by
  have d := dp_rows (R n)
  show (PyData.canLayAll0 ((R n).map rowD) && decide (PyData.depthAll ((R n).map rowD) + 1 ≤ 64)) = true
  rw [can_rows, decide_eq_true (by omega)]
  rfl
theorem shaped_rowsL (R : Str → List (List Int)) (n : Str) : SeqAt.shaped (gL R n) = true := shaped_rowsT R n
theorem noDs_rows (xs : List (List Int)) : noDs (xs.map rowD) = true := noDs_all fun d m => by
  obtain ⟨r, _, rfl⟩ := List.mem_map.mp m
  refine noDs_all fun d m => ?_
  obtain ⟨_, _, rfl⟩ := List.mem_map.mp m
  rfl
theorem noL_rows (R : Str → List (List Int)) (n : Str) : noL (gT R n) = true := noLs_all fun d m => by
  obtain ⟨r, _, rfl⟩ := List.mem_map.mp m
  refine noLs_all fun d m => ?_
  obtain ⟨_, _, rfl⟩ := List.mem_map.mp m
  rfl
/-- whether the rows are the same for all tables -/
def sameR (ts : List Tab) (R S : Str → List (List Int)) : Bool := ts.all fun t => decide (R t.1 = S t.1)
theorem sameR_comm (ts : List Tab) (R S : Str → List (List Int)) : sameR ts R S = sameR ts S R := by
  unfold sameR
  congr 1
  funext t
  exact decide_eq_decide.mpr ⟨Eq.symm, Eq.symm⟩
/-- the pairs of a dict of rows -/
def pairsD (ts : List Tab) (g : Str → PyData) : List (Key × PyData) := ts.map fun t => ((Sum.inr t.1 : Key), g t.1)
theorem kd_of {K : PySem.W.Frag} {F : Hp} {ts : List Tab} {g : Str → PyData} (nd : (ts.map (·.1)).Nodup) (sh : ∀ n, SeqAt.shaped (g n) = true) (pl : ∀ n, noD (g n) = true) : ∀ {kvs : List (Key × V)}, kvs.map (·.1) = ts.map (fun t => (Sum.inr t.1 : Key)) → (∀ t ∈ ts, ∃ v, valV kvs (Sum.inr t.1) = some v ∧ Tp F v (g t.1)) → KD K F kvs (pairsD ts g) := by
  induction ts with
  | nil =>
    intro kvs e _
    cases kvs with
    | nil => exact .nil
    | cons _ _ => cases e
  | cons t ts ih =>
    intro kvs e val
    cases kvs with
    | nil => cases e
    | cons kv kvs =>
      rw [List.map_cons, List.map_cons] at e
      injection e with e1 e2
      obtain ⟨k, v⟩ := kv
      have e1' : k = Sum.inr t.1 := e1
      subst e1'
      rw [List.map_cons, List.nodup_cons] at nd
      obtain ⟨u, h1, h2⟩ := val t List.mem_cons_self
      have z : valV ((Sum.inr t.1, v) :: kvs) (Sum.inr t.1) = some v := by
        unfold valV
        rw [List.find?_cons_of_pos (by simp)]
        rfl
      rw [z] at h1
      cases h1
      refine .cons (h2.plain (pl _)) (sh _) (ih nd.2 e2 fun u mu => ?_)
      obtain ⟨y, q1, q2⟩ := val u (List.mem_cons_of_mem _ mu)
      refine ⟨y, ?_, q2⟩
      have ne : ¬ t.1 = u.1 := fun e => nd.1 (by rw [e]; exact List.mem_map.mpr ⟨u, mu, rfl⟩)
      unfold valV at q1 ⊢
      rw [List.find?_cons_of_neg (by simp [ne])] at q1
      exact q1
theorem valD_pairs {ts : List Tab} {g : Str → PyData} (nd : (ts.map (·.1)).Nodup) {t : Tab} (m : t ∈ ts) : valD (pairsD ts g) (Sum.inr t.1) = some (g t.1) := by
  induction ts with
  | nil => cases m
  | cons u us ih =>
    rw [List.map_cons, List.nodup_cons] at nd
    unfold valD pairsD
    rw [List.map_cons]
    rcases List.mem_cons.mp m with rfl | m
    · rw [List.find?_cons_of_pos (by simp)]
      rfl
    · have ne : ¬ u.1 = t.1 := fun e => nd.1 (by rw [e]; exact List.mem_map.mpr ⟨t, m, rfl⟩)
      rw [List.find?_cons_of_neg (by simp [ne])]
      exact ih nd.2 m
theorem eqKD_same {ts : List Tab} {R S : Str → List (List Int)} {g h : Str → PyData} (nd : (ts.map (·.1)).Nodup) (e : ∀ n, PyData.eqv (g n) (h n) = decide (R n = S n)) : eqKD (pairsD ts g) (pairsD ts h) = sameR ts R S := by
  unfold eqKD
  have l : (pairsD ts g).length = (pairsD ts h).length := by
    unfold pairsD
    rw [List.length_map, List.length_map]
  rw [l, beq_self_eq_true, Bool.true_and]
  unfold sameR
  have z : ∀ us : List Tab, (∀ u ∈ us, u ∈ ts) → (pairsD us g).all (hitD (pairsD ts h)) = us.all fun t => decide (R t.1 = S t.1) := by
    intro us
    induction us with
    | nil => intro _; rfl
    | cons u us ih =>
      intro hu
      have hh : hitD (pairsD ts h) ((Sum.inr u.1 : Key), g u.1) = decide (R u.1 = S u.1) := by
        unfold hitD
        rw [show valD (pairsD ts h) (((Sum.inr u.1 : Key), g u.1) : Key × PyData).1 = some (h u.1) from valD_pairs nd (hu u List.mem_cons_self)]
        exact e u.1
      show (hitD (pairsD ts h) ((Sum.inr u.1 : Key), g u.1) && (pairsD us g).all (hitD (pairsD ts h))) = (decide (R u.1 = S u.1) && us.all fun t => decide (R t.1 = S t.1))
      rw [hh, ih fun u m => hu u (List.mem_cons_of_mem _ m)]
  exact z ts fun _ m => m
theorem noD_T (R : Str → List (List Int)) (n : Str) : noD (gT R n) = true := noDs_rows (R n)
theorem noD_L (R : Str → List (List Int)) (n : Str) : noD (gL R n) = true := noDs_rows (R n)
theorem eqv_T {R S : Str → List (List Int)} (n : Str) : PyData.eqv (gT R n) (gT S n) = decide (R n = S n) := eqv_rows _ _
theorem eqv_L {R S : Str → List (List Int)} (n : Str) : PyData.eqv (gL R n) (gL S n) = decide (R n = S n) := eqv_rows _ _
theorem eqv_strs : ∀ (xs ys : List Str), PyData.eqvAll (xs.map PyData.str) (ys.map PyData.str) = decide (xs = ys)
  | [], [] => rfl
  | [], _ :: _ => rfl
  | _ :: _, [] => rfl
  | x :: xs, y :: ys => by
    show ((x == y) && PyData.eqvAll (xs.map PyData.str) (ys.map PyData.str)) = decide (x :: xs = y :: ys)
    rw [eqv_strs xs ys]
    by_cases h1 : x = y
    · subst h1
      by_cases h2 : xs = ys
      · simp [h2]
      · simp [h2]
    · have q : (x == y) = false := by simpa using h1
      rw [q]
      simp [h1]
theorem eqv_tab (t u : Tab) : PyData.eqv (tabD false t) (tabD false u) = decide (t = u) := by
  show ((t.1 == u.1) && (PyData.eqvAll (t.2.map PyData.str) (u.2.map PyData.str) && true)) = decide (t = u)
  rw [eqv_strs]
  obtain ⟨a, b⟩ := t
  obtain ⟨c, d⟩ := u
  by_cases h1 : a = c
  · subst h1
    by_cases h2 : b = d
    · simp [h2]
    · simp [h2]
  · have q : (a == c) = false := by simpa using h1
    simp only [q]
    simp [h1]
theorem eqv_tabs : ∀ (ts us : List Tab), PyData.eqvAll (ts.map (tabD false)) (us.map (tabD false)) = decide (ts = us)
  | [], [] => rfl
  | [], _ :: _ => rfl
  | _ :: _, [] => rfl
  | t :: ts, u :: us => by
    show (PyData.eqv (tabD false t) (tabD false u) && PyData.eqvAll (ts.map (tabD false)) (us.map (tabD false))) = decide (t :: ts = u :: us)
    rw [eqv_tab, eqv_tabs ts us]
    by_cases h1 : t = u
    · by_cases h2 : ts = us <;> simp [h1, h2]
    · simp [h1]
/-- what else the top has left of the class of stores -/
structure Tx3 (K : PySem.W.Frag) (CS CT : Addr) : Prop where
  c_cls : PySem.W.findIn K (.ref CT) "__class__" = some (some (.builtin "object.__class__"))
  c_mro : PySem.W.mroIn K CT (.type "object") = some true
  c_ne : PySem.W.findIn K (.ref CT) "__ne__" = some (some (.builtin "object.__ne__"))
  c_isi : ∀ n ∈ ["NoneType", "bool", "int", "str", "list", "tuple", "dict"], PySem.W.kitOne K (.type n) (.ref CT) = some false
  c_nf : ∀ n ∈ ["NoneType", "bool", "int", "str", "list", "tuple", "dict"], PySem.W.notFirst K CT (.type n) = true
  s_isi : PySem.W.kitOne K (.ref CS) (.ref CT) = some false
  s_nf : PySem.W.notFirst K CT (.ref CS) = true
theorem kit_same {K : PySem.W.Frag} (C : Addr) : PySem.W.kitOne K (.ref C) (.ref C) = some true := by
  show (if (Value.ref C == Value.ref C) = true then some true else _) = some true
  rw [if_pos (beq_self_eq_true _)]
theorem first_same {K : PySem.W.Frag} (C : Addr) : PySem.W.notFirst K C (.ref C) = true := by
  show ((Value.ref C == Value.ref C) || _) = true
  rw [beq_self_eq_true]
  rfl
end Fm

/-! ## K32G -/
set_option Elab.async false
set_option maxRecDepth 100000
set_option maxHeartbeats 4000000
namespace Fm
open PySem L2
/-! ### rows that are put and taken -/
theorem okRow_good {w : Nat} {r : List Int} (h : goodR w r) : okRow w (rowD r) = true ∧ okRow w (.list (r.map PyData.int)) = true := by
  have e : (r.map PyData.int).length = w := by rw [List.length_map, h.1]
  have a : (r.map PyData.int).all isValD = true := by
    rw [List.all_eq_true]
    intro c m
    obtain ⟨z, mz, rfl⟩ := List.mem_map.mp m
    obtain ⟨v1, v2⟩ := h.2 z mz
    show (decide (-1000000000 ≤ z) && decide (z ≤ 1000000000)) = true
    rw [decide_eq_true v1, decide_eq_true v2]
    rfl
  have go : ∀ d : PyData, partsD d = r.map PyData.int → isRowD d = true → okRow w d = true := fun d q1 q2 => by
    unfold okRow rowD3
    rw [q1, q2, e, decide_eq_true (Int.le_refl _), a]
    rfl
  exact ⟨go _ rfl rfl, go _ rfl rfl⟩
theorem ints_sz : ∀ zs : List Int, depL (zs.map PyData.int) = 0 ∧ sizL (zs.map PyData.int) = zs.length
  | [] => ⟨rfl, rfl⟩
  | z :: zs => by
    obtain ⟨h1, h2⟩ := ints_sz zs
    exact ⟨show max 0 (depL (zs.map PyData.int)) = 0 by omega, show 1 + sizL (zs.map PyData.int) = zs.length + 1 by omega⟩
theorem rows_sz {w : Nat} : ∀ {R : List (List Int)}, (∀ r ∈ R, goodR w r) → depL (R.map rowD) ≤ 1 ∧ sizL (R.map rowD) = (1 + w) * R.length
  | [], _ => ⟨Nat.zero_le _, rfl⟩
  | r :: R, h => by
    obtain ⟨h1, h2⟩ := rows_sz fun s m => h s (List.mem_cons_of_mem _ m)
    have l := (h r List.mem_cons_self).1
    obtain ⟨i1, i2⟩ := ints_sz r
    refine ⟨?_, ?_⟩
    · show max (1 + depL (r.map PyData.int)) (depL (R.map rowD)) ≤ 1
      omega
    · show (1 + sizL (r.map PyData.int)) + sizL (R.map rowD) = (1 + w) * (R.length + 1)
      rw [Nat.mul_add, Nat.mul_one]
      omega
theorem rok_bd {ts : List Tab} {R : Str → List (List Int)} {N : Nat} (ok : TsOk ts) (h : Rok ts R N) (hN : N ≤ 60) {t : Tab} (m : t ∈ ts) : 1 + sizL ((R t.1).map rowD) ≤ 400 ∧ depL ((R t.1).map rowD) ≤ 1 := by
  obtain ⟨l, g⟩ := h t m
  obtain ⟨h1, h2⟩ := rows_sz g
  have lf := (ok.ok t m).fs.hi
  have z : (1 + t.2.length) * (R t.1).length ≤ 5 * 60 := Nat.mul_le_mul (by omega) (by omega)
  omega
theorem tab_eq {ts : List Tab} (nd : (ts.map (·.1)).Nodup) {t u : Tab} (m : t ∈ ts) (mu : u ∈ ts) (q : u.1 = t.1) : u = t := by
  obtain ⟨i, hi, ei⟩ := List.getElem_of_mem mu
  obtain ⟨j, hj, ej⟩ := List.getElem_of_mem m
  have z := (List.getElem_inj (h₀ := by rw [List.length_map]; exact hi) (h₁ := by rw [List.length_map]; exact hj) nd).mp (by rw [List.getElem_map, List.getElem_map, ei, ej]; exact q)
  subst z
  rw [← ei, ej]
theorem firstD_rows {w : Nat} {R : List (List Int)} (h : ∀ r ∈ R, goodR w r) : firstWrong w (R.map rowD) = none := first_none fun j r e => by
  rw [List.getElem?_map] at e
  obtain ⟨z, hz, rfl⟩ := Option.map_eq_some_iff.mp e
  exact (okRow_good (h z (List.mem_of_getElem? hz))).1
theorem total_le {h : Str → PyData} {N : Nat} : ∀ {ts : List Tab}, (∀ t ∈ ts, (partsD (h t.1)).length ≤ N) → total h ts ≤ N * ts.length
  | [], _ => Nat.zero_le _
  | t :: ts, k => by
    have z := total_le fun u m => k u (List.mem_cons_of_mem _ m)
    have y := k t List.mem_cons_self
    unfold total at *
    rw [List.map_cons, List.sum_cons, List.length_cons, Nat.mul_add, Nat.mul_one]
    omega
theorem rowD_tupd (r : List Int) : tupd (rowD r) = rowD r := by
  show PyData.tuple (tupdL (r.map PyData.int)) = _
  rw [tupdL_map]
  have z : ∀ r : List Int, (r.map PyData.int).map tupd = r.map PyData.int := fun r => by
    rw [List.map_map]
    rfl
  rw [z]
  rfl
theorem rows_tupd (R : List (List Int)) : (R.map rowD).map tupd = R.map rowD := by
  rw [List.map_map]
  exact List.map_congr_left fun r _ => rowD_tupd r
theorem list_tupd (R : List (List Int)) : tupd (.list (R.map rowD)) = .tuple (R.map rowD) := by
  rw [tupd_parts rfl]
  exact congrArg PyData.tuple (rows_tupd R)
theorem tuple_tupd (R : List (List Int)) : tupd (.tuple (R.map rowD)) = .tuple (R.map rowD) := by
  rw [tupd_parts rfl]
  exact congrArg PyData.tuple (rows_tupd R)
theorem rok_set {ts : List Tab} {R : Str → List (List Int)} {N M : Nat} {t : Tab} {rs : List (List Int)} (ok : TsOk ts) (m : t ∈ ts) (h : Rok ts R N) (hM : N ≤ M) (l : rs.length ≤ M) (g : ∀ r ∈ rs, goodR t.2.length r) : Rok ts (setR R t.1 rs) M := fun u mu => by
  unfold setR
  by_cases q : u.1 = t.1
  · rw [if_pos q]
    rw [tab_eq ok.nd m mu q]
    exact ⟨l, g⟩
  · rw [if_neg q]
    exact ⟨Nat.le_trans (h u mu).1 hM, (h u mu).2⟩
theorem Rok.up {ts : List Tab} {R : Str → List (List Int)} {N M : Nat} (h : Rok ts R N) (hM : N ≤ M) : Rok ts R M := fun u mu => ⟨Nat.le_trans (h u mu).1 hM, (h u mu).2⟩
end Fm

/-! ## FmTup -/
set_option Elab.async false
set_option maxRecDepth 100000
set_option maxHeartbeats 4000000
/-! Dicts with tuple keys: setdefault, and a display of one pair. -/
namespace Fm
open PySem L2 PySem.Spec
section
variable {X : Cx} {pins : List (Addr × Obj)} {σ : St} {H : Hp} {s : Shared} {a b : Addr} {r : Value} {d : V} {k : List Key} {A : Around} {E : Value → Shared → Prop}
theorem d_setdT {kvs : List (List Key × V)} {Q : Value → Shared → Prop} (hu : A.units + 1 < cLine) (I : Inv X pins σ H s) (e : H a = some (.dT kvs)) (eb : H b = some (.tup (k.map kV))) (rd : RelV d r) (hl : kvs.length < sizeLine)
    (h1 : ∀ v, valV kvs k = some v → ∀ (w' : Value) (s' : Shared), Inv X pins σ H s' → RelV v w' → Q w' s') (h2 : valV kvs k = none → ∀ (w' : Value) (s' : Shared), Inv X pins σ (upd H a (.dT (putK kvs k d))) s' → RelV d w' → Q w' s') :
    wpAny (model X.prog X.w) A (call (.builtin "dict.setdefault") [.ref a, .ref b, r]) Q E s := by
  obtain ⟨z, hd, xs, rel, dd⟩ := dt_of I.hok e
  have hz : xs.length ≤ sizeLine := by rw [← Paired.length rel]; exact z
  have hl2 : (putK kvs k d).length ≤ sizeLine := by have := length_putK kvs k d; omega
  refine call_setdefault_heap (hsz := hz) (tupleKind_room_in1 hu) (key_of I.hok eb) hd dd (fun p hp => ?_) fun hn h' dd' hs => ?_
  · have q := rel.val k
    rw [hp] at q
    cases q0 : valV kvs k with
    | none =>
      rw [q0] at q
      exact (show False from q).elim
    | some v0 =>
      rw [q0] at q
      exact h1 v0 q0 _ _ (I.tok _) q
  · have q := rel.val k
    rw [hn] at q
    cases q0 : valV kvs k with
    | some v0 =>
      rw [q0] at q
      exact (show False from q).elim
    | none =>
      obtain ⟨q, es, ep, hq, g2, g3, g4, _, g5⟩ := dd'
      refine h2 q0 _ _ (d_write (t' := s.toks + (tupleKind (mixKind X.prog X.w)).draws k) I (by rw [e]; exact True.intro) hs ⟨q, hq⟩ ⟨hl2, hd, _, (rel.put k eb rd).keeps fun c ys ec => ?_, q, es, ep, hq, g2, g3, g4, g5⟩) rd
      rw [upd_ne (ne_of ec e (fun z => nomatch z))]
      exact ec
end
/-- name *= e, numbers -/
def ipM : TIp := fun x y H Q => ∃ i j, x = .int i ∧ y = .int j ∧ CMul i j ∧ Q (.int (i * j)) H
theorem ip_mul {X : Cx} : PIp X .Mult ipM := by
  intro pins s σ H x y v u Q I r1 r2 h
  obtain ⟨i, j, rfl, rfl, hc, q⟩ := h
  obtain ⟨t, rfl⟩ := r1
  obtain ⟨t', rfl⟩ := r2
  exact PyProof.Rows.imul_int ⟨.int _, H, I.tok _, ⟨_, rfl⟩, q⟩ hc.ok
/-- d.setdefault(y, z), y a tuple -/
def tDSetdT (td ty tx : TE) : TE := fun σ H Q => td σ H fun x H1 => ∃ a, x = .ref a ∧ IsD H1 a ∧ ty σ H1 fun y H2 => tx σ H2 fun z H3 => ∃ (kvs : List (List Key × V)) (k : List Key) (b : Addr), H3 a = some (.dT kvs) ∧ y = .ref b ∧ H3 b = some (.tup (k.map kV)) ∧ kvs.length < sizeLine ∧
  (∀ v, valV kvs k = some v → Q v H3) ∧ (valV kvs k = none → Q z (upd H3 a (.dT (putK kvs k z))))
section
variable {X : Cx} {o e f : Expr} {td ty tx : TE} {apos cpos : Pos}
theorem pe_dsetdT (hu : X.A.units + 1 < cLine) (ho : PE X o td) (he : PE X e ty) (hf : PE X f tx) (m : M2 X o "setdefault" apos e f cpos) : PE X (.Call (.Attribute o "setdefault" apos) [e, f] [] cpos) (tDSetdT td ty tx) := by
  refine ⟨fun pins s σ H Q I h => ?_⟩
  refine wpAny_Call_method m.base m.few m.line PySem.F.plainAttrs_dict PySem.F.slot_dict_setdefault PySem.F.type_dict_setdefault (thn (ho.run pins s σ H _ I h) fun u s1 ⟨x, H1, I1, rx, a, ex, d, q1⟩ => ?_)
  subst ex
  obtain rfl : u = Value.ref a := rx
  obtain ⟨t1, t2, _⟩ := isD_at I1 d
  refine ⟨t1, t2, ?_⟩
  rw [m.trees]
  refine Calls.callWith_builtin rfl (Calls.evalArgs_plain (Calls.spliced_cons (thn (he.run pins s1 σ H1 _ I1 q1) fun iv s2 ⟨y, H2, I2, ry, q2⟩ =>
    Calls.spliced_cons (thn (hf.run pins s2 σ H2 _ I2 q2) fun fv s3 ⟨z, H3, I3, rz, kvs, k, b, ea, ey, eb, hl, q3, q4⟩ => Calls.spliced_nil ?_))))
  subst ey
  obtain rfl : iv = Value.ref b := ry
  exact d_setdT hu I3 ea eb rz hl (fun v hv w' s4 I4 rw' => ⟨v, _, I4, rw', q3 v hv⟩) fun hn w' s4 I4 rw' => ⟨z, _, I4, rw', q4 hn⟩
end
/-- {k: v} with one key that is a tuple -/
def tDisp1T (tk tv : TE) : TE := fun σ H Q => ∀ p, H p = none → tk σ (upd H p (.dT [])) fun x H1 => tv σ H1 fun y H2 => ∃ (b : Addr) (k : List Key), x = .ref b ∧ H2 b = some (.tup (k.map kV)) ∧ H2 p = some (.dT []) ∧ Q (.ref p) (upd H2 p (.dT [(k, y)]))
theorem pe_disp1T {X : Cx} {pos : Pos} {k v : Expr} {tk tv : TE} (hu : X.A.units + 1 < cLine) (hk : PE X k tk) (hv : PE X v tv) : PE X (.Dict [some k] [v] pos) (tDisp1T tk tv) := by
  refine ⟨fun pins s σ H Q I q => ?_⟩
  have hn := I.hok.fresh (Nat.le_refl s.heap.objs.size)
  have I1 := I.laid (a := s.heap.objs.size) (o := .dT []) (h' := s.heap.push { cls := .type "dict", data := .dict #[] }) (t' := s.toks) (fun _ _ q => Heap.get?_push_of_some _ q) (Nat.le_refl _) (dt_empty s.heap I.big)
  rw [arm_eval_Dict, zip_pairTrees [some k] [v] X.env pos rfl rfl, dictDisplay_pairs _ (fun z => by cases z) (by rw [pairTrees_length [some k] [v] X.env pos rfl rfl]; show 1 < 17; decide)]
  refine wpAny_bind (wpAny_standAt (wpAny_bind (wpAny_subDictH (knd := tupleKind (mixKind X.prog X.w)) (Q := fun d s' => wpAny (model X.prog X.w) X.A (pure (Value.ref d)) _ X.xe s') ((show X.A.units < cLine by omega)) (by rw [pairTrees_length [some k] [v] X.env pos rfl rfl]; show 1 ≤ 15; decide) ?_)))
  refine pairTrees_cons_walk (thn (hk.run pins _ σ _ _ I1 (q _ hn)) fun u s1 ⟨x, H1, I1, rx, q1⟩ => thn (hv.run pins s1 σ H1 _ I1 q1) fun w2 s2 ⟨y, H2, I2, ry, b, ks, ex, eb, ep, q2⟩ => ?_)
  refine pairTrees_nil_walk ?_
  subst ex
  obtain rfl : u = Value.ref b := rx
  obtain ⟨z, hd, xs, r0, dd⟩ := dt_of I2.hok ep
  cases r0
  refine ⟨[(ks, b, w2)], ⟨rfl, rfl, key_of I2.hok eb, True.intro⟩, dd, fun h' tk dd' hs => wpAny_pure ⟨.ref s.heap.objs.size, _, ?_, rfl, q2⟩⟩
  obtain ⟨q, es, ep', hq, g2, g3, g4, _, g5⟩ := dd'
  refine d_write I2 (by rw [ep]; exact True.intro) hs ⟨q, hq⟩ ⟨by rw [sizeLine_eq]; show 1 ≤ _; omega, hd, [(ks, b, w2)], .cons ⟨rfl, ?_, ry⟩ .nil, q, es, ep', hq, g2, g3, g4, g5⟩
  rw [upd_ne (ne_of eb ep (fun z => nomatch z))]
  exact eb
section
variable {X : Cx}
/-- name = {..} on one line, the name a local -/
theorem ps_setDc {i : Nat} {y : Str} {py : Pos} {kx vx tg iter : Expr} {ifs : List Expr} {scope : Scope} {own : List (Str × Nat)} {pos spos : Pos} {wi : TI} {g : TG} {tt : TT} {tk tv : TE} (hc : X.calm = true) (hN : X.N.Nodup) (hy : X.N[i]? = some y) (hyl : X.env.scope.names.lookup y = some .local)
    (hsw : swapsWith (.DictComp kx vx [⟨tg, iter, ifs, 0⟩] scope pos) (some (.Name y py)) spos.line X.env = pure true) (hi : PI X tg iter wi) (ok : BlkOk X.N X.env.scope scope own)
    (hg : ∀ (s : Shared) (H : Hp) (C : Addr) (cl : List (Str × Addr)) (fp : List Addr), PG (X.blk s H scope (compEnvC scope cl C X.env) fp) tg g) (ht : ∀ (s : Shared) (H : Hp) (C : Addr) (cl : List (Str × Addr)) (fp : List Addr), PTs (X.blk s H scope (compEnvC scope cl C X.env) fp) ifs tt)
    (hk : ∀ (s : Shared) (H : Hp) (C : Addr) (cl : List (Str × Addr)) (fp : List Addr), PE (X.blk s H scope (compEnvC scope cl C X.env) fp) kx tk)
    (he : ∀ (s : Shared) (H : Hp) (C : Addr) (cl : List (Str × Addr)) (fp : List Addr), PE (X.blk s H scope (compEnvC scope cl C X.env) fp) vx tv) (hs : ∀ x, foldedSetIterable iter X.env x = pure x := by intro _; rfl) :
    PS X (.Assign [.Name y py] (.DictComp kx vx [⟨tg, iter, ifs, 0⟩] scope pos) spos) (tAsg (tDc wi g tt tk tv (own.map (·.2))) (gName i)) := by
  refine ⟨fun pins s σ H D I h => ?_⟩
  rw [exec_Assign_Name_used _ _ _ _ hsw]
  refine wpAny_bind (wpAny_standAt (wpAny_bind ?_))
  show wpAny _ X.A (do let _ ← comprehension (.DictComp kx vx [⟨tg, iter, ifs, 0⟩] scope pos) scope X.env (firstIterPos [⟨tg, iter, ifs, 0⟩] pos) newDict false (eval iter X.env) (some (assign (.Name y py) X.env))) _ _ s
  have h : tDc wi g tt tk tv (own.map (·.2)) σ H (fun x H1 => gName i x σ H1 D.nx) := h
  refine wpAny_bind (thn (dc_core (Qf := fun _ s' => SP X pins D .next s') hc hN I hi ok hg ht hk he hs h fun L C s' m H' I' q hn f => ?_) fun _ s' hq => wpAny_pure (wpAny_pure hq))
  show wpAny _ _ (assign (.Name y py) X.env (.ref L)) _ _ _
  refine wpAny_assign_Name (store_ok2 (v := V.ref L) I' hN hy (.inl hyl) rfl (fun s2 I2 ⟨a, sb, ha⟩ => ?_) (.inr hyl))
  obtain ⟨f0, f1, f2, f3, f4, f5⟩ := f
  have haC : C ≠ a := by
    rcases ha with z | z
    · rw [z]; exact f1
    · exact fun e => f4 y a z e.symm
  refine ⟨m, hn.sameBut sb haC, fun h3 sb3 => ?_⟩
  exact ⟨_, H', I2.turned (t' := s2.toks) (fun b o hb e => (sb3.2 b hb).trans e) f0 f1 f3 f4 f5, q⟩
theorem sw_trueD {kx vx : Expr} {gs : List Comprehension} {scope : Scope} {pos py : Pos} {y : Str} {l : Nat} {env : Env} (hk : env.scope.kind = .function) (hy : env.scope.names.lookup y = some .local) (hl : (py.line == pos.line) = true)
    (ha : (scope.names.any fun (n, k) => n == y && (k == .local || k == .cell)) = false) : swapsWith (.DictComp kx vx gs scope pos) (some (.Name y py)) l env = pure true := by
  have ky : env.kindOf y = some .local := hy
  have hb : env.blockKind = .function := by unfold Env.blockKind; rw [hk]; rfl
  unfold swapsWith
  simp only [hb, ky, ha, Expr.pos, hl]
  rfl
theorem opK_notin {X : Cx} {K : PySem.W.Frag} (hK : X.K = K := by rfl) : OpR X (compareOp .NotIn) (rIn K true) := by
  subst hK
  exact op_notIn_seq
end
end Fm

/-! ## K32K -/
set_option Elab.async false
set_option maxRecDepth 100000
set_option maxHeartbeats 4000000
namespace Fm
open PySem L2
/-! ### rows of patterns, as data -/
abbrev PRow := Str × List Key
def seqD (b : Bool) (ds : List PyData) : PyData := if b = true then .list ds else .tuple ds
def prowD (b : Bool) (r : PRow) : PyData := .tuple [.str r.1, seqD b (r.2.map kD)]
def rowsD (b : Bool) (rs : List PRow) : PyData := seqD b (rs.map (prowD b))
theorem seqD_row (b : Bool) (ds : List PyData) : isRowD (seqD b ds) = true := by cases b <;> rfl
theorem seqD_parts (b : Bool) (ds : List PyData) : partsD (seqD b ds) = ds := by cases b <;> rfl
def okSy (k : Key) : Prop := match k with | .inl i => -1000000000 ≤ i ∧ i ≤ 1000000000 | .inr _ => True
structure PRok (r : PRow) : Prop where
  nm : isNm r.1 = true
  ln : r.1.length ≤ 100000
  lo : 1 ≤ r.2.length
  hi : r.2.length ≤ 4
  sy : ∀ k ∈ r.2, okSy k
def unkD : PyData → Bool
  | .str _ => true
  | _ => false
theorem kD_val {k : Key} (h : okSy k) : unkD (kD k) = true ∨ unkD (kD k) = false ∧ isValD (kD k) = true := by
  cases k with
  | inr s => exact .inl rfl
  | inl i =>
    obtain ⟨h1, h2⟩ := (show -1000000000 ≤ i ∧ i ≤ 1000000000 from h)
    refine .inr ⟨rfl, ?_⟩
    show (decide (-1000000000 ≤ i) && decide (i ≤ 1000000000)) = true
    rw [decide_eq_true h1, decide_eq_true h2]
    rfl
theorem row_at {H : Hp} {v : V} {b : Bool} {r : PRow} (h : Tp H v (prowD b r)) : ∃ a c, v = .ref a ∧ H a = some (.tup [.str r.1, .ref c]) ∧ ∃ xs, Rw H c xs ∧ TpAll H xs (r.2.map kD) ∧ Tp H (.ref c) (seqD b (r.2.map kD)) := by
  obtain ⟨a, xs, rfl, ha, ta⟩ := (show Tp H v (.tuple [.str r.1, seqD b (r.2.map kD)]) from h).tuple
  cases ta with
  | cons h1 h2 =>
    cases h2 with
    | cons h3 h4 =>
      cases h4
      obtain ⟨c, ys, rfl, hc, tc⟩ := h3.row (seqD_row b _)
      rw [seqD_parts] at tc
      rw [h1.strI] at ha
      exact ⟨a, c, rfl, ha, ys, hc, tc, h3⟩
section
variable {P : Program} {w : World} {K : PySem.W.Frag} {mg : Str → Option Value} {base : Heap} {CS : Addr}
def spUnk : Sp := fun vs H Q _ => ∃ (v : V) (d : PyData), vs = [v] ∧ Tp H v d ∧ Q (.bl (unkD d)) H
abbrev s_is_unknown : Stmt := topS 18
abbrev sc_is_unknownN : List Str := ["symbol"]
abbrev ps_is_unknown : List Str := ["symbol"]
theorem sc_is_unknown : FnScope sc_is_unknownN ps_is_unknown (defScope s_is_unknown) := ⟨rfl, rfl, rfl, by decide +kernel, rfl, by decide +kernel, by decide +kernel⟩
theorem ok_is_unknown {f : Addr} {fd : FuncData} (F : Fun K "is_unknown" "is_unknown" s_is_unknown f fd) (T : Txt K mg CS) : FnOk P w K mg base CX0 1 f fd ps_is_unknown spUnk := by
  refine F.ok sc_is_unknown (fun vs H Q E h => ?_) (fun cdv A outer s H vs Q E hr h => ?_)
  · obtain ⟨_, _, rfl, _⟩ := h
    rfl
  · obtain ⟨v, d, rfl, hv, k⟩ := h
    refine ⟨_, (pss_one (ps_ret (pe_callB call_isi (by rfl) T.n_isinstance (by decide +kernel) (pa_cons (pv 0) (pa_cons (pe_bltn (v := .ty "str") (by rfl) T.n_str (by decide +kernel) rfl) pa_nil))))), ?_⟩
    refine ⟨_, rfl, _, _, _, _, _, rfl, .ty _, hv.ty (K := K), kit_ty (kit_d (by simp)), ?_⟩
    cases d <;> exact k
def spPRow : Sp := fun vs H Q _ => ∃ (v : V) (b : Bool) (r : PRow), vs = [v] ∧ Tp H v (prowD b r) ∧ PRok r ∧ ∀ H', Same H H' → Q (.bl true) H'
abbrev s_is_pattern_row : Stmt := topS 20
abbrev sc_is_pattern_rowN : List Str := ["thing", "symbol"]
abbrev ps_is_pattern_row : List Str := ["thing"]
theorem sc_is_pattern_row : FnScope sc_is_pattern_rowN ps_is_pattern_row (defScope s_is_pattern_row) := ⟨rfl, rfl, rfl, by decide +kernel, rfl, by decide +kernel, by decide +kernel⟩
theorem ok_is_pattern_row {f : Addr} {fd : FuncData} (F : Fun K "is_pattern_row" "is_pattern_row" s_is_pattern_row f fd) (T : Txt K mg CS) (D_is_tuple : Df P w K mg base "is_tuple" 1 ps_is_tuple (spIsTuple K)) (D_is_name : Df P w K mg base "is_name" 1 ps_is_name (spIsName K)) (D_is_row : Df P w K mg base "is_row" 1 ps_is_row (spIsRow K))
    (D_is_unknown : Df P w K mg base "is_unknown" 1 ps_is_unknown spUnk) (D_is_value : Df P w K mg base "is_value" 2 ps_is_value spIsVal) :
    FnOk P w K mg base CX0 3 f fd ps_is_pattern_row spPRow := by
  refine F.ok sc_is_pattern_row (fun vs H Q E h => ?_) (fun cdv A outer s H vs Q E hr h => ?_)
  · obtain ⟨_, _, _, rfl, _⟩ := h
    rfl
  · obtain ⟨v, b, r, rfl, hv, ok, k⟩ := h
    refine ⟨_, (pss_cons (ps_if (PW.pt (pw_or (pt_not (pt_val (pe_d D_is_tuple (hr.mono (by decide)) (pa_cons (pv 0) (pa_cons pe_int pa_nil))))) (pw_or (pt_not (pt_val (pe_d D_is_name (hr.mono (by decide)) (pa_cons (pe_ix ix_tup (pv 0) pe_int (fun _ _ => rfl)) pa_nil)))) (pw_or1 (pt_not (pt_val (pe_d D_is_row (hr.mono (by decide)) (pa_cons (pe_ix ix_tup (pv 0) pe_int (fun _ _ => rfl)) (pa_cons pe_int (pa_cons (pe_gI T.g_MOST_SYMBOLS) pa_nil))))))))))
    (pss_one (ps_ret pe_bl))
    pss_nil)
  (pss_one (ps_ret (pe_callB (cr_all (by rfl)) (by rfl) T.n_all (by decide +kernel) (pa_cons (pe_lc (own := [("symbol", 1)]) (g := gName 1) (tt := tYes) (by rfl) sc_is_pattern_row.nd (pi_any (pe_ix ix_tup (pv 0) pe_int (fun _ _ => rfl))) (blkOk_by (own := [("symbol", 1)]) (N := sc_is_pattern_rowN) (sc := defScope s_is_pattern_row) (by decide +kernel)) (fun _ _ _ _ _ => pg_name (i := 1) sc_is_pattern_row.nd rfl (Or.inl rfl)) (fun _ _ _ _ _ => pts_nil) (fun _ _ _ _ _ => (pe_or (pe_d D_is_unknown (hr.mono (by decide)) (pa_cons (pv 1) pa_nil)) (pe_one (pe_d D_is_value (hr.mono (by decide)) (pa_cons (pv 1) pa_nil)))))) pa_nil))))), ?_⟩
    obtain ⟨a, c, rfl, ha, xs, hc, tc, th⟩ := row_at hv
    refine ⟨_, rfl, _, _, 2, rfl, hv, _, rfl, iteF ?_⟩
    refine ⟨_, rfl, a, _, 0, _, rfl, rfl, .inl (.inl ha), rfl, _, _, rfl, .inl ⟨r.1, rfl, ok.ln, ok.nm.symm⟩, fun H1 s1 => ⟨_, rfl, iteF ?_⟩⟩
    refine ⟨_, rfl, a, _, 1, _, rfl, rfl, .inl (.inl (s1 _ _ ha)), rfl, _, _, 1, 4, rfl, th.same s1, fun H2 s2 => ⟨_, rfl, ?_⟩⟩
    have s12 := s1.trans s2
    have lx := tc.len
    rw [List.length_map] at lx
    have lo := ok.lo
    have hi := ok.hi
    have er : rowD3 1 4 (seqD b (r.2.map kD)) = true := by
      unfold rowD3
      rw [seqD_row, seqD_parts, List.length_map, decide_eq_true (by omega), decide_eq_true (by omega)]
      rfl
    rw [er]
    refine iteF ?_
    refine ⟨_, rfl, a, _, 1, _, rfl, rfl, .inl (.inl (s12 _ _ ha)), rfl, c, xs, rfl, any_of (K := K) (rw_sq hc) s12 fun J G gm wk D hD => ?_⟩
    refine lc_it wk (fun i H' => Same H2 H' ∧ H' D = some (.lst ((r.2.take i).map fun _ => V.bl true))) ⟨same_new _ hD, by rw [upd_same]; rfl⟩ (fun i H' _ z => gm H' (s12.trans z.1)) ?_ ?_
    · rintro i x H3 H4 hi ⟨s3, d3⟩ ⟨rfl, hx⟩
      obtain ⟨y, hy, ty⟩ := tc.at hx
      rw [List.getElem?_map] at hy
      obtain ⟨kk, hk, rfl⟩ := Option.map_eq_some_iff.mp hy
      have mk := List.mem_of_getElem? hk
      have t4 := ty.same (s12.trans s3)
      have fin : ∃ acc, H4 D = some (.lst acc) ∧ acc.length < sizeLine ∧ Same H2 (upd H4 D (.lst (acc ++ [V.bl true]))) ∧ (upd H4 D (.lst (acc ++ [V.bl true]))) D = some (.lst ((r.2.take (i + 1)).map fun _ => V.bl true)) :=
        ⟨_, d3, take_lt _ (by omega), same_put s3 _ hD, by rw [upd_same, map_take _ hk]⟩
      refine ⟨rfl, _, rfl, _, _, rfl, t4, _, rfl, ?_⟩
      rcases kD_val (ok.sy kk mk) with e | ⟨e1, e2⟩
      · rw [e]
        exact iteT fin
      · rw [e1]
        refine iteF ⟨_, rfl, _, _, rfl, t4, ?_⟩
        rw [e2]
        exact fin
    · rintro H3 ⟨s3, d3⟩
      rw [lx, List.take_length, bl_map (f := fun _ => true)] at d3
      refine ⟨D, _, rfl, .inl (.inl d3), ?_⟩
      have ea : (r.2.map fun _ => true).all id = true := by
        rw [List.all_map]
        simp
      rw [ea]
      exact k _ (s12.trans s3)
def RsOk (rs : List PRow) : Prop := rs.length ≤ 6 ∧ ∀ r ∈ rs, PRok r
def spPRows : Sp := fun vs H Q _ => ∃ (v : V) (b : Bool) (rs : List PRow), vs = [v] ∧ Tp H v (rowsD b rs) ∧ RsOk rs ∧ ∀ H', Same H H' → Q (.bl true) H'
abbrev s_are_pattern_rows : Stmt := topS 19
abbrev sc_are_pattern_rowsN : List Str := ["thing", "row"]
abbrev ps_are_pattern_rows : List Str := ["thing"]
theorem sc_are_pattern_rows : FnScope sc_are_pattern_rowsN ps_are_pattern_rows (defScope s_are_pattern_rows) := ⟨rfl, rfl, rfl, by decide +kernel, rfl, by decide +kernel, by decide +kernel⟩
theorem ok_are_pattern_rows {f : Addr} {fd : FuncData} (F : Fun K "are_pattern_rows" "are_pattern_rows" s_are_pattern_rows f fd) (T : Txt K mg CS) (D_is_row : Df P w K mg base "is_row" 1 ps_is_row (spIsRow K)) (D_is_pattern_row : Df P w K mg base "is_pattern_row" 3 ps_is_pattern_row spPRow) :
    FnOk P w K mg base CX0 4 f fd ps_are_pattern_rows spPRows := by
  refine F.ok sc_are_pattern_rows (fun vs H Q E h => ?_) (fun cdv A outer s H vs Q E hr h => ?_)
  · obtain ⟨_, _, _, rfl, _⟩ := h
    rfl
  · obtain ⟨v, b, rs, rfl, hv, ok, k⟩ := h
    refine ⟨_, (pss_one (ps_ret (pe_and (pe_d D_is_row (hr.mono (by decide)) (pa_cons (pv 0) (pa_cons pe_int (pa_cons (pe_gI T.g_MOST_PATTERN_ROWS) pa_nil)))) (pe_one (pe_callB (cr_all (by rfl)) (by rfl) T.n_all (by decide +kernel) (pa_cons (pe_lc (own := [("row", 1)]) (g := gName 1) (tt := tYes) (by rfl) sc_are_pattern_rows.nd (pi_any (pv 0)) (blkOk_by (own := [("row", 1)]) (N := sc_are_pattern_rowsN) (sc := defScope s_are_pattern_rows) (by decide +kernel)) (fun _ _ _ _ _ => pg_name (i := 1) sc_are_pattern_rows.nd rfl (Or.inl rfl)) (fun _ _ _ _ _ => pts_nil) (fun _ _ _ _ _ => (pe_d D_is_pattern_row (hr.mono (by decide)) (pa_cons (pv 1) pa_nil)))) pa_nil)))))), ?_⟩
    obtain ⟨hi6, oks⟩ := ok
    have hv2 : Tp H v (seqD b (rs.map (prowD b))) := hv
    refine ⟨_, rfl, _, _, 0, 6, rfl, hv2, fun H1 s1 => ⟨_, rfl, ?_⟩⟩
    have er : rowD3 0 6 (seqD b (rs.map (prowD b))) = true := by
      unfold rowD3
      rw [seqD_row, seqD_parts, List.length_map, decide_eq_true (by omega), decide_eq_true (by omega)]
      rfl
    rw [er]
    obtain ⟨a, xs, rfl, hx, ha⟩ := hv2.row (seqD_row b _)
    rw [seqD_parts] at ha
    have lx := ha.len
    rw [List.length_map] at lx
    refine iteT ⟨_, rfl, a, xs, rfl, any_of (K := K) (rw_sq hx) s1 fun J G gm wk D hD => ?_⟩
    refine lc_it wk (fun i H' => Same H1 H' ∧ H' D = some (.lst ((rs.take i).map fun _ => V.bl true))) ⟨same_new _ hD, by rw [upd_same]; rfl⟩ (fun i H' _ z => gm H' (s1.trans z.1)) ?_ ?_
    · rintro i x H3 H4 hi ⟨s3, d3⟩ ⟨rfl, hx⟩
      obtain ⟨y, hy, ty⟩ := ha.at hx
      rw [List.getElem?_map] at hy
      obtain ⟨r, hk, rfl⟩ := Option.map_eq_some_iff.mp hy
      refine ⟨rfl, _, rfl, _, b, r, rfl, ty.same (s1.trans s3), oks r (List.mem_of_getElem? hk), fun H5 s5 => ?_⟩
      exact ⟨_, s5 _ _ d3, take_lt _ (by omega), same_put (s3.trans s5) _ hD, by rw [upd_same, map_take _ hk]⟩
    · rintro H3 ⟨s3, d3⟩
      rw [lx, List.take_length, bl_map (f := fun _ => true)] at d3
      refine ⟨D, _, rfl, .inl (.inl d3), ?_⟩
      have ea : (rs.map fun _ => true).all id = true := by
        rw [List.all_map]
        simp
      rw [ea]
      exact k _ (s1.trans s3)
end
end Fm

/-! ## K32L -/
set_option Elab.async false
set_option maxRecDepth 100000
set_option maxHeartbeats 4000000
namespace Fm
open PySem L2
/-! ### the unknowns of rows -/
def addU (us : List Str) (k : Key) : List Str := match k with
  | .inl _ => us
  | .inr s => if s ∈ us then us else us ++ [s]
def addR (us : List Str) (r : PRow) : List Str := r.2.foldl addU us
def unks (rs : List PRow) : List Str := rs.foldl addR []
def metK (us : List Str) : List (Key × V) := us.map fun s => ((Sum.inr s : Key), V.bl true)
theorem metK_put (us : List Str) (s : Str) : putK (metK us) (Sum.inr s) (V.bl true) = metK (addU us (.inr s)) := by
  unfold putK
  show _ = metK (if s ∈ us then us else us ++ [s])
  by_cases h : s ∈ us
  · rw [if_pos h, if_pos (show ((metK us).any fun kv => decide (kv.1 = (Sum.inr s : Key))) = true from List.any_eq_true.mpr ⟨((Sum.inr s : Key), V.bl true), List.mem_map.mpr ⟨s, h, rfl⟩, decide_eq_true rfl⟩)]
    unfold metK
    rw [List.map_map]
    refine List.map_congr_left fun u _ => ?_
    show (if (Sum.inr u : Key) = Sum.inr s then ((Sum.inr u : Key), V.bl true) else (Sum.inr u, V.bl true)) = _
    by_cases q : (Sum.inr u : Key) = Sum.inr s
    · rw [if_pos q]
    · rw [if_neg q]
  · rw [if_neg h, if_neg]
    · unfold metK
      rw [List.map_append]
      rfl
    · intro z
      obtain ⟨kv, m, e⟩ := List.any_eq_true.mp z
      obtain ⟨u, mu, rfl⟩ := List.mem_map.mp m
      have e2 := of_decide_eq_true e
      exact h (by rw [← (Sum.inr.inj e2 : u = s)]; exact mu)
theorem addU_len (us : List Str) (k : Key) : (addU us k).length ≤ us.length + 1 := by
  cases k with
  | inl i => exact Nat.le_succ _
  | inr s =>
    show (if s ∈ us then us else us ++ [s]).length ≤ _
    by_cases h : s ∈ us
    · rw [if_pos h]
      omega
    · rw [if_neg h, List.length_append]
      exact Nat.le_refl _
theorem foldU_len : ∀ (ks : List Key) (us : List Str), (ks.foldl addU us).length ≤ us.length + ks.length
  | [], us => Nat.le_refl _
  | k :: ks, us => by
    have h1 := addU_len us k
    have h2 := foldU_len ks (addU us k)
    show (ks.foldl addU (addU us k)).length ≤ us.length + (ks.length + 1)
    omega
def RsFew (rs : List PRow) : Prop := rs.length ≤ 6 ∧ ∀ r ∈ rs, r.2.length ≤ 4
theorem foldR_len : ∀ (rs : List PRow) (us : List Str), (∀ r ∈ rs, r.2.length ≤ 4) → (rs.foldl addR us).length ≤ us.length + 4 * rs.length
  | [], us, _ => Nat.le_refl _
  | r :: rs, us, h => by
    have h1 := foldU_len r.2 us
    have h2 := foldR_len rs (addR us r) fun u m => h u (List.mem_cons_of_mem _ m)
    have h3 := h r List.mem_cons_self
    show (rs.foldl addR (addR us r)).length ≤ us.length + 4 * (rs.length + 1)
    unfold addR at *
    omega
theorem fold_take {α β : Type} {f : β → α → β} {xs : List α} {i : Nat} {c : α} {b : β} (h : xs[i]? = some c) : (xs.take (i + 1)).foldl f b = f ((xs.take i).foldl f b) c := by
  rw [List.take_add_one, h, List.foldl_append]
  rfl
section
variable {P : Program} {w : World} {K : PySem.W.Frag} {mg : Str → Option Value} {base : Heap} {CS : Addr}
def spUnks : Sp := fun vs H Q _ => ∃ (v : V) (b : Bool) (rs : List PRow), vs = [v] ∧ Tp H v (rowsD b rs) ∧ RsFew rs ∧ ∀ p H', H p = none → Same H H' → H' p = some (.lst ((unks rs).map V.str)) → Q (.ref p) H'
abbrev s_unknowns_of : Stmt := topS 24
abbrev sc_unknowns_ofN : List Str := ["rows", "met", "_", "symbols", "symbol"]
abbrev ps_unknowns_of : List Str := ["rows"]
theorem sc_unknowns_of : FnScope sc_unknowns_ofN ps_unknowns_of (defScope s_unknowns_of) := ⟨rfl, rfl, rfl, by decide +kernel, rfl, by decide +kernel, by decide +kernel⟩
theorem ok_unknowns_of {f : Addr} {fd : FuncData} (F : Fun K "unknowns_of" "unknowns_of" s_unknowns_of f fd) (T : Txt K mg CS) (D_is_unknown : Df P w K mg base "is_unknown" 1 ps_is_unknown spUnk) :
    FnOk P w K mg base CX0 2 f fd ps_unknowns_of spUnks := by
  refine F.ok sc_unknowns_of (fun vs H Q E h => ?_) (fun cdv A outer s H vs Q E hr h => ?_)
  · obtain ⟨_, _, _, rfl, _⟩ := h
    rfl
  · obtain ⟨v, b, rs, rfl, hv, ⟨h6, h4⟩, k⟩ := h
    refine ⟨_, (pss_cons (ps_set (i := 1) sc_unknowns_of.nd rfl (Or.inl rfl) pe_dnewK)
  (pss_cons (ps_for PassesOwn.never rfl (pi_any (pv 0)) (pg_tup (by rfl) (pgs_cons (pg_name (i := 2) sc_unknowns_of.nd rfl (Or.inl rfl)) (pgs_cons (pg_name (i := 3) sc_unknowns_of.nd rfl (Or.inl rfl)) pgs_nil)))
    (pss_one (ps_for PassesOwn.never rfl (pi_any (pv 3)) (pg_name (i := 4) sc_unknowns_of.nd rfl (Or.inl rfl))
      (pss_one (ps_if (pt_val (pe_d D_is_unknown (hr.mono (by decide)) (pa_cons (pv 4) pa_nil)))
        (pss_one (ps_asg pe_bl (pg_sub (pv 1) (pv 4) (set_dict (Nat.lt_of_le_of_lt (Nat.add_le_add_left (by decide) _) hr.units)))))
        pss_nil)))))
  (pss_one (ps_ret (pe_callTy (call_listD (by rfl)) (by rfl) T.n_list (by decide +kernel) (pa_cons (pv 1) pa_nil)))))), ?_⟩
    obtain ⟨a, xs, rfl, hx, ha⟩ := (show Tp H v (seqD b (rs.map (prowD b))) from hv).row (seqD_row b _)
    rw [seqD_parts] at ha
    have lx := ha.len
    rw [List.length_map] at lx
    intro m hm
    refine ⟨_, rfl, a, xs, rfl, any_of (K := K) (rw_sq hx) (same_new _ hm) fun J G gm wk => ?_⟩
    refine for_it wk (fun i σ H' => ∃ v2 v3 v4, σ = [some (.ref a), some (.ref m), v2, v3, v4] ∧ Same H H' ∧ H' m = some (.dK (metK ((rs.take i).foldl addR [])))) ⟨_, _, _, rfl, same_new _ hm, upd_same⟩ (fun i σ H' _ z => by obtain ⟨_, _, _, _, z, _⟩ := z; exact gm H' z) ?_ ?_
    · rintro i x σ H2 H3 hi ⟨v2, v3, v4, rfl, s2, d2⟩ ⟨rfl, hx⟩
      obtain ⟨y, hy, ty⟩ := ha.at hx
      rw [List.getElem?_map] at hy
      obtain ⟨r, hk, rfl⟩ := Option.map_eq_some_iff.mp hy
      have mr := List.mem_of_getElem? hk
      obtain ⟨p, c, rfl, hp, ys, hc, tc, _⟩ := row_at (ty.same s2)
      have ly := tc.len
      rw [List.length_map] at ly
      have l4 := h4 r mr
      have few : ((rs.take i).foldl addR []).length ≤ 24 := by
        have z := foldR_len (rs.take i) [] fun u m => h4 u (List.mem_of_mem_take m)
        have z2 : (rs.take i).length ≤ 6 := by rw [List.length_take]; omega
        have z3 : ([] : List Str).length = 0 := rfl
        omega
      refine ⟨p, _, rfl, .inl (.inl hp), rfl, _, _, rfl, _, _, rfl, rfl, ?_⟩
      have hcm : Rw (cut H3 m) c ys := by
        rcases hc with hc | hc
        · exact .inl (by rw [cut_ne fun z => by rw [z, d2] at hc; cases hc]; exact hc)
        · exact .inr (by rw [cut_ne fun z => by rw [z, d2] at hc; cases hc]; exact hc)
      refine ⟨_, rfl, c, ys, rfl, any_of (K := K) (rw_sq hcm) cut_sub fun J2 G2 gm2 wk2 => ?_⟩
      refine for_it wk2 (fun j σ H' => ∃ v4, σ = [some (.ref a), some (.ref m), some (.str r.1), some (.ref c), v4] ∧ Same (cut H3 m) H' ∧ H' m = some (.dK (metK ((r.2.take j).foldl addU ((rs.take i).foldl addR []))))) ⟨_, rfl, cut_sub, d2⟩ (fun j σ H' _ z => by obtain ⟨_, _, z, _⟩ := z; exact gm2 H' z) ?_ ?_
      · rintro j x σ H4 H5 hj ⟨v4, rfl, s4, d4⟩ ⟨rfl, hx2⟩
        obtain ⟨y, hy, ty2⟩ := tc.at hx2
        rw [List.getElem?_map] at hy
        obtain ⟨kk, hkk, rfl⟩ := Option.map_eq_some_iff.mp hy
        have ek := fold_take (f := addU) (b := (rs.take i).foldl addR []) hkk
        have lj := foldU_len (r.2.take j) ((rs.take i).foldl addR [])
        have lj2 : (r.2.take j).length ≤ 4 := by rw [List.length_take]; omega
        have dm : (metK ((r.2.take j).foldl addU ((rs.take i).foldl addR []))).length < sizeLine := by
          unfold metK
          rw [List.length_map]
          exact Nat.lt_of_le_of_lt (show _ ≤ 28 by omega) (by decide)
        cases kk with
        | inl z =>
          have tv : x = .int z := (show Tp _ x (.int z) from ty2).intI
          subst tv
          refine ⟨_, rfl, _, _, rfl, Tp.int z, _, rfl, iteF ⟨_, rfl, s4, ?_⟩⟩
          rw [ek]
          exact d4
        | inr z =>
          have tv : x = .str z := (show Tp _ x (.str z) from ty2).strI
          subst tv
          refine ⟨_, rfl, _, _, rfl, Tp.str z, _, rfl, iteT ?_⟩
          refine ⟨_, rfl, _, rfl, m, _, rfl, DPut.k (k := Sum.inr z) d4 dm, _, rfl, fun b o e => ?_, ?_⟩
          · rw [upd_ne (ne_of_none e cut_at)]
            exact s4 b o e
          · rw [upd_same, metK_put, ek]
      · rintro σ H4 ⟨v4, rfl, s4, d4⟩
        rw [ly, List.take_length] at d4
        refine ⟨_, _, _, rfl, (same_cut s2 hm).trans s4, ?_⟩
        rw [fold_take hk]
        exact d4
    · rintro σ H2 ⟨v2, v3, v4, rfl, s2, d2⟩
      rw [lx, List.take_length] at d2
      refine ⟨_, rfl, m, _, rfl, .inl d2, fun p hp => ?_⟩
      have e : (metK (rs.foldl addR [])).map (fun kv => kV kv.1) = (unks rs).map V.str := by
        unfold metK
        rw [List.map_map]
        rfl
      rw [e]
      exact k p _ (s2.free hp) (s2.trans (same_new _ hp)) upd_same
end
end Fm

/-! ## K32X -/
set_option Elab.async false
set_option maxRecDepth 100000
set_option maxHeartbeats 4000000
namespace Fm
open PySem L2
/-! ### the names of unknowns -/
theorem addU_nodup {us : List Str} (h : us.Nodup) (k : Key) : (addU us k).Nodup := by
  cases k with
  | inl i => exact h
  | inr s =>
    show (if s ∈ us then us else us ++ [s]).Nodup
    by_cases m : s ∈ us
    · rw [if_pos m]
      exact h
    · rw [if_neg m, List.nodup_append]
      refine ⟨h, by simp, fun a ha b hb e => ?_⟩
      have z : b = s := by simpa using hb
      exact m (by rw [← z, ← e]; exact ha)
theorem foldU_nodup : ∀ (ks : List Key) {us : List Str}, us.Nodup → (ks.foldl addU us).Nodup
  | [], _, h => h
  | k :: ks, _, h => foldU_nodup ks (addU_nodup h k)
theorem unks_nodup (rs : List PRow) : (unks rs).Nodup := by
  have go : ∀ (rs : List PRow) (us : List Str), us.Nodup → (rs.foldl addR us).Nodup := by
    intro rs
    induction rs with
    | nil => exact fun us h => h
    | cons r rs ih => exact fun us h => ih _ (foldU_nodup r.2 h)
  exact go rs [] List.nodup_nil
theorem addU_mem {us : List Str} {k : Key} {s : Str} : s ∈ addU us k ↔ s ∈ us ∨ k = .inr s := by
  cases k with
  | inl i => exact ⟨Or.inl, fun h => by rcases h with h | h; exact h; cases h⟩
  | inr z =>
    show s ∈ (if z ∈ us then us else us ++ [z]) ↔ _
    by_cases m : z ∈ us
    · rw [if_pos m]
      exact ⟨Or.inl, fun h => by rcases h with h | h; exact h; rw [← Sum.inr.inj h]; exact m⟩
    · rw [if_neg m, List.mem_append, List.mem_singleton]
      exact ⟨fun h => by rcases h with h | h; exact .inl h; exact .inr (by rw [h]), fun h => by rcases h with h | h; exact .inl h; exact .inr (Sum.inr.inj h).symm⟩
theorem foldU_mem {s : Str} : ∀ {ks : List Key} {us : List Str}, s ∈ ks.foldl addU us ↔ s ∈ us ∨ (Sum.inr s : Key) ∈ ks
  | [], us => ⟨Or.inl, fun h => by rcases h with h | h; exact h; cases h⟩
  | k :: ks, us => by
    show s ∈ ks.foldl addU (addU us k) ↔ _
    rw [foldU_mem, addU_mem, List.mem_cons]
    constructor
    · rintro ((h | h) | h)
      · exact .inl h
      · exact .inr (.inl h.symm)
      · exact .inr (.inr h)
    · rintro (h | h | h)
      · exact .inl (.inl h)
      · exact .inl (.inr h.symm)
      · exact .inr h
theorem unks_mem {s : Str} {rs : List PRow} : s ∈ unks rs ↔ ∃ r ∈ rs, (Sum.inr s : Key) ∈ r.2 := by
  have go : ∀ (rs : List PRow) (us : List Str), s ∈ rs.foldl addR us ↔ s ∈ us ∨ ∃ r ∈ rs, (Sum.inr s : Key) ∈ r.2 := by
    intro rs
    induction rs with
    | nil => exact fun us => ⟨Or.inl, fun h => by rcases h with h | ⟨r, m, _⟩; exact h; cases m⟩
    | cons r rs ih =>
      intro us
      show s ∈ rs.foldl addR (addR us r) ↔ _
      rw [ih, show addR us r = r.2.foldl addU us from rfl, foldU_mem]
      constructor
      · rintro ((h | h) | ⟨u, m, h⟩)
        · exact .inl h
        · exact .inr ⟨r, List.mem_cons_self, h⟩
        · exact .inr ⟨u, List.mem_cons_of_mem _ m, h⟩
      · rintro (h | ⟨u, m, h⟩)
        · exact .inl (.inl h)
        · rcases List.mem_cons.mp m with e | m
          · exact .inl (.inr (by rw [← e]; exact h))
          · exact .inr ⟨u, m, h⟩
  have z := go rs []
  exact ⟨fun h => by rcases z.mp h with h | h; cases h; exact h, fun h => z.mpr (.inr h)⟩
theorem unks_len {rs : List PRow} (h : RsFew rs) : (unks rs).length ≤ 24 := by
  have z := foldR_len rs [] h.2
  have z2 := h.1
  have z3 : ([] : List Str).length = 0 := rfl
  show (rs.foldl addR []).length ≤ 24
  omega
def lt (i : Nat) : Str := one (97 + i)
def nmK : Nat → List Str → List (Key × V)
  | _, [] => []
  | n, u :: us => (Sum.inr u, V.str (lt n)) :: nmK (n + 1) us
theorem nmK_len : ∀ (n : Nat) (us : List Str), (nmK n us).length = us.length
  | _, [] => rfl
  | n, u :: us => by
    show (nmK (n + 1) us).length + 1 = us.length + 1
    rw [nmK_len]
theorem nmK_snoc : ∀ (n : Nat) (us : List Str) (u : Str), nmK n (us ++ [u]) = nmK n us ++ [(Sum.inr u, V.str (lt (n + us.length)))]
  | n, [], u => rfl
  | n, v :: us, u => by
    show (Sum.inr v, V.str (lt n)) :: nmK (n + 1) (us ++ [u]) = (Sum.inr v, V.str (lt n)) :: (nmK (n + 1) us ++ _)
    rw [nmK_snoc, show n + 1 + us.length = n + (v :: us).length by rw [List.length_cons]; omega]
theorem nmK_no : ∀ {n : Nat} {us : List Str} {u : Str}, u ∉ us → valV (nmK n us) (Sum.inr u : Key) = none
  | _, [], _, _ => rfl
  | n, v :: us, u, h => by
    show valV ((Sum.inr v, V.str (lt n)) :: nmK (n + 1) us) _ = none
    rw [valV_neg (fun e => h (by rw [← (Sum.inr.inj e : v = u)]; exact List.mem_cons_self))]
    exact nmK_no fun m => h (List.mem_cons_of_mem _ m)
theorem nmK_val : ∀ {n : Nat} {us : List Str} {u : Str}, u ∈ us → valV (nmK n us) (Sum.inr u : Key) = some (.str (lt (n + us.idxOf u)))
  | _, [], _, m => by cases m
  | n, v :: us, u, m => by
    by_cases e : v = u
    · subst e
      show valV ((Sum.inr v, V.str (lt n)) :: nmK (n + 1) us) _ = _
      rw [valV_pos rfl, List.idxOf_cons_self]
      rfl
    · have m2 : u ∈ us := by rcases List.mem_cons.mp m with q | q; exact absurd q.symm e; exact q
      show valV ((Sum.inr v, V.str (lt n)) :: nmK (n + 1) us) _ = _
      rw [valV_neg (fun z => e (Sum.inr.inj z)), nmK_val m2, show (v :: us).idxOf u = (us.idxOf u).succ by rw [List.idxOf_cons, beq_false_of_ne e]; rfl, show n + 1 + us.idxOf u = n + (us.idxOf u).succ by omega]
theorem nmK_put {us : List Str} {i : Nat} {u : Str} (nd : us.Nodup) (h : us[i]? = some u) : putK (nmK 0 (us.take i)) (Sum.inr u) (V.str (lt i)) = nmK 0 (us.take (i + 1)) := by
  obtain ⟨hi, e⟩ := List.getElem?_eq_some_iff.mp h
  have no : u ∉ us.take i := fun m => by
    obtain ⟨j, hj, ej⟩ := List.getElem_of_mem m
    rw [List.length_take] at hj
    rw [List.getElem_take] at ej
    have z := (List.getElem_inj (h₀ := by omega) (h₁ := hi) nd).mp (ej.trans e.symm)
    omega
  rw [putK_new _ (nmK_no no), List.take_add_one, h]
  show _ = nmK 0 (us.take i ++ [u])
  rw [nmK_snoc, List.length_take, Nat.zero_add, Nat.min_eq_left (by omega)]
def renK (us : List Str) (k : Key) : Key := match k with
  | .inl i => .inl i
  | .inr s => .inr (lt (us.idxOf s))
theorem keys_tp {H : Hp} : ∀ ks : List Key, TpAll H (ks.map kV) (ks.map kD)
  | [] => .nil
  | .inl i :: ks => .cons (.int i) (keys_tp ks)
  | .inr s :: ks => .cons (.str s) (keys_tp ks)
theorem kD_tp {H : Hp} {v : V} {k : Key} (h : Tp H v (kD k)) : v = kV k := by
  cases k with
  | inl i => exact h.intI
  | inr s => exact h.strI
theorem keys_inv {H : Hp} : ∀ {ks : List Key} {xs : List V}, TpAll H xs (ks.map kD) → xs = ks.map kV
  | [], _, h => by cases h; rfl
  | k :: ks, _, h => by
    cases h with
    | cons h1 h2 => rw [kD_tp h1, keys_inv h2]; rfl
/-- a comprehension of a dict over any walk -/
theorem dc_it {J : It} {n : Nat} {G : Hp → Prop} {Y : Nat → Hp → V → Hp → Prop} (w : Walk J n G Y) {g : TG} {tt : TT} {tk tv : TE} {vs : List Nat} {σ : St} {H1 : Hp} {D : Addr} {Qd : Hp → Prop} (Pv : Nat → Hp → Prop) (h0 : Pv 0 (upd H1 D (.dK []))) (hG : ∀ i H, i ≤ n → Pv i H → G H)
    (hs : ∀ i x H H', i < n → Pv i H → Y i H x H' → g x (wipe σ vs) H' fun σ2 H2 => wipe σ2 vs = wipe σ vs ∧ tt σ2 H2 fun b H3 =>
      if b = true then tk σ2 H3 fun y H4 => tv σ2 H4 fun z H5 => ∃ kvs k, y = kV k ∧ H5 D = some (.dK kvs) ∧ kvs.length < sizeLine ∧ Pv (i + 1) (upd H5 D (.dK (putK kvs k z))) else Pv (i + 1) H3) (hd : ∀ H, Pv n H → Qd H) :
    ∃ W : Nat → Nat → Hp → Prop, (∃ m, W 0 m (upd H1 D (.dK []))) ∧ ∀ i m H, W i m H →
      (J.stop i H ∧ Qd H) ∨ (J.go i H ∧ ∃ Nx : Hp → Prop, (∀ H', Nx H' → ∃ m', m' < m ∧ W (i + 1) m' H') ∧ ∀ x H', J.yld i H x H' → g x (wipe σ vs) H' fun σ2 H2 => wipe σ2 vs = wipe σ vs ∧ tt σ2 H2 fun b H3 =>
        if b = true then tk σ2 H3 fun y H4 => tv σ2 H4 fun z H5 => ∃ kvs k, y = kV k ∧ H5 D = some (.dK kvs) ∧ kvs.length < sizeLine ∧ Nx (upd H5 D (.dK (putK kvs k z))) else Nx H3) := by
  refine ⟨fun i m H => m = n - i ∧ i ≤ n ∧ Pv i H, ⟨n, by simp, Nat.zero_le _, h0⟩, ?_⟩
  rintro i m H ⟨rfl, hi, p⟩
  have q := hG i H hi p
  by_cases hlt : i < n
  · refine .inr ⟨w.goes i H hlt q, Pv (i + 1), fun H' p' => ⟨n - (i + 1), by omega, rfl, hlt, p'⟩, fun x H' y => hs i x H H' hlt p (w.yields i H x H' hlt q y)⟩
  · have e : i = n := by omega
    subst e
    exact .inl ⟨w.stops H q, hd H p⟩
section
variable {P : Program} {w : World} {K : PySem.W.Frag} {mg : Str → Option Value} {base : Heap} {CS : Addr}
def spNamed : Sp := fun vs H Q _ => ∃ (v : V) (b : Bool) (rs : List PRow), vs = [v] ∧ Tp H v (rowsD b rs) ∧ RsFew rs ∧ ∀ p H', H p = none → Same H H' → H' p = some (.dK (nmK 0 (unks rs))) → Q (.ref p) H'
abbrev s_named : Stmt := topS 23
abbrev sc_namedN : List Str := ["rows", "at", "unknown"]
abbrev ps_named : List Str := ["rows"]
theorem sc_named : FnScope sc_namedN ps_named (defScope s_named) := ⟨rfl, rfl, rfl, by decide +kernel, rfl, by decide +kernel, by decide +kernel⟩
theorem ok_named {f : Addr} {fd : FuncData} (F : Fun K "named" "named" s_named f fd) (T : Txt K mg CS) (D_unknowns_of : Df P w K mg base "unknowns_of" 2 ps_unknowns_of spUnks) :
    FnOk P w K mg base CX0 3 f fd ps_named spNamed := by
  refine F.ok sc_named (fun vs H Q E h => ?_) (fun cdv A outer s H vs Q E hr h => ?_)
  · obtain ⟨_, _, _, rfl, _⟩ := h
    rfl
  · obtain ⟨v, b, rs, rfl, hv, few, k⟩ := h
    refine ⟨_, (pss_one (ps_ret (L2.pe_dc (own := [("at", 1), ("unknown", 2)]) (g := gTup K 2 (gCons (gName 1) (gCons (gName 2) gNil))) (tt := tYes) (by rfl) sc_named.nd (pi_enumA (by rfl) T.n_enumerate (pa_cons (pe_d D_unknowns_of (hr.mono (by decide)) (pa_cons (pv 0) pa_nil)) pa_nil)) (blkOk_by (own := [("at", 1), ("unknown", 2)]) (N := sc_namedN) (sc := defScope s_named) (by decide +kernel)) (fun _ _ _ _ _ => pg_tup (by rfl) (pgs_cons (pg_name (i := 1) sc_named.nd rfl (Or.inl rfl)) (pgs_cons (pg_name (i := 2) sc_named.nd rfl (Or.inl rfl)) pgs_nil))) (fun _ _ _ _ _ => pts_nil) (fun _ _ _ _ _ => (pv 2)) (fun _ _ _ _ _ => (pe_ix ix_str (pe_gS T.g_LETTERS) (pv 1) (fun _ _ => rfl)))))), ?_⟩
    refine ⟨_, rfl, _, b, rs, rfl, hv, few, fun p H1 np s1 hp => ?_⟩
    have lu := unks_len few
    have nd := unks_nodup rs
    refine ⟨p, (unks rs).map V.str, rfl, .inl ⟨.inl (.inl hp), fun D hD => ?_⟩⟩
    refine dc_it walk_enum (fun i H' => Same H1 H' ∧ H' D = some (.dK (nmK 0 ((unks rs).take i)))) ⟨same_new _ hD, by rw [upd_same]; rfl⟩ (fun i H' _ z => .inl (.inl (z.1 _ _ hp))) ?_ ?_
    · rintro i x H2 H3 hi ⟨s2, d2⟩ ⟨U, x1, y, rfl, hU, rfl, e1, hy⟩
      obtain rfl : V.int (i : Nat) = x1 := Option.some.inj e1
      have hy2 : ((unks rs).map V.str)[i]? = some y := hy
      rw [List.getElem?_map] at hy2
      obtain ⟨u, hu, rfl⟩ := Option.map_eq_some_iff.mp hy2
      obtain ⟨hi2, _⟩ := List.getElem?_eq_some_iff.mp hu
      have z := atI_nat (xs := List.range' 97 26) (j := i) (v := 97 + i) (by rw [List.getElem?_range' (by omega)]; simp)
      refine ⟨U, _, rfl, .inl (.inl upd_same), rfl, _, _, rfl, _, _, rfl, rfl, rfl, _, rfl, ?_⟩
      have s3 : Same H1 (upd H2 U (.tup [V.int (i : Nat), V.str u])) := s2.trans (same_new _ hU)
      have d3 := same_new (.tup [V.int (i : Nat), V.str u]) hU _ _ d2
      refine ⟨_, rfl, _, _, 97 + i, rfl, rfl, (by show (26 : Nat) ≤ sizeLine; decide), z, _, Sum.inr u, rfl, d3, ?_, same_put s3 _ hD, ?_⟩
      · rw [nmK_len, List.length_take]
        exact Nat.lt_of_le_of_lt (show _ ≤ 24 by omega) (by decide)
      · rw [upd_same]
        exact congrArg (fun l => some (HO.dK l)) (nmK_put nd hu)
    · rintro H2 ⟨s2, d2⟩
      rw [List.length_map, List.take_length] at d2
      exact k D H2 (s1.free hD) (s1.trans s2) d2
end
end Fm

/-! ## K32Y -/
set_option Elab.async false
set_option maxRecDepth 100000
set_option maxHeartbeats 4000000
namespace Fm
open PySem L2
section
variable {P : Program} {w : World} {K : PySem.W.Frag} {mg : Str → Option Value} {base : Heap} {CS CP : Addr}
def Known (us : List Str) (ks : List Key) : Prop := ∀ s, (Sum.inr s : Key) ∈ ks → s ∈ us
def spRenamed : Sp := fun vs H Q _ => ∃ (v : V) (nd : Addr) (b : Bool) (ks : List Key) (us : List Str), vs = [v, .ref nd] ∧ Tp H v (seqD b (ks.map kD)) ∧ ks.length ≤ 4 ∧ H nd = some (.dK (nmK 0 us)) ∧ Known us ks ∧
  ∀ p H', H p = none → Same H H' → H' p = some (.tup ((ks.map (renK us)).map kV)) → Q (.ref p) H'
abbrev s_renamed : Stmt := topS 25
abbrev sc_renamedN : List Str := ["symbols", "names", "symbol"]
abbrev ps_renamed : List Str := ["symbols", "names"]
theorem sc_renamed : FnScope sc_renamedN ps_renamed (defScope s_renamed) := ⟨rfl, rfl, rfl, by decide +kernel, rfl, by decide +kernel, by decide +kernel⟩
theorem ok_renamed {f : Addr} {fd : FuncData} (F : Fun K "renamed" "renamed" s_renamed f fd) (T : Txt K mg CS) (D_is_unknown : Df P w K mg base "is_unknown" 1 ps_is_unknown spUnk) :
    FnOk P w K mg base CX0 2 f fd ps_renamed spRenamed := by
  refine F.ok sc_renamed (fun vs H Q E h => ?_) (fun cdv A outer s H vs Q E hr h => ?_)
  · obtain ⟨_, _, _, _, _, rfl, _⟩ := h
    rfl
  · obtain ⟨v, nd, b, ks, us, rfl, hv, h4, hn, kn, k⟩ := h
    refine ⟨_, (pss_one (ps_ret (pe_callTy call_tuple_of (by rfl) T.n_tuple (by decide +kernel) (pa_cons (pe_lc (own := [("symbol", 2)]) (g := gName 2) (tt := tYes) (by rfl) sc_renamed.nd (pi_any (pv 0)) (blkOk_by (own := [("symbol", 2)]) (N := sc_renamedN) (sc := defScope s_renamed) (by decide +kernel)) (fun _ _ _ _ _ => pg_name (i := 2) sc_renamed.nd rfl (Or.inl rfl)) (fun _ _ _ _ _ => pts_nil) (fun _ _ _ _ _ => (pe_ifExp (pt_val (pe_d D_is_unknown (hr.mono (by decide)) (pa_cons (pv 2) pa_nil))) (pe_dget (Nat.lt_of_le_of_lt (Nat.add_le_add_left (by decide) _) hr.units) (pv 1) (pv 2) (fun _ _ => rfl)) (pv 2)))) pa_nil)))), ?_⟩
    obtain ⟨a, xs, rfl, hx, ha⟩ := hv.row (seqD_row b _)
    rw [seqD_parts] at ha
    have lx := ha.len
    rw [List.length_map] at lx
    refine ⟨_, rfl, a, xs, rfl, any_of (K := K) (rw_sq hx) (Same.refl _) fun J G gm wk D hD => ?_⟩
    refine lc_it wk (fun i H' => Same H H' ∧ H' D = some (.lst ((ks.take i).map fun k => kV (renK us k)))) ⟨same_new _ hD, by rw [upd_same]; rfl⟩ (fun i H' _ z => gm H' z.1) ?_ ?_
    · rintro i x H3 H4 hi ⟨s3, d3⟩ ⟨rfl, hx⟩
      obtain ⟨y, hy, ty⟩ := ha.at hx
      rw [List.getElem?_map] at hy
      obtain ⟨kk, hk, rfl⟩ := Option.map_eq_some_iff.mp hy
      have mk := List.mem_of_getElem? hk
      have tv : x = kV kk := kD_tp ty
      subst tv
      have fin : ∃ acc, H4 D = some (.lst acc) ∧ acc.length < sizeLine ∧ Same H (upd H4 D (.lst (acc ++ [kV (renK us kk)]))) ∧ (upd H4 D (.lst (acc ++ [kV (renK us kk)]))) D = some (.lst ((ks.take (i + 1)).map fun k => kV (renK us k))) :=
        ⟨_, d3, take_lt _ (by omega), same_put s3 _ hD, by rw [upd_same, map_take _ hk]⟩
      cases kk with
      | inl z => exact ⟨rfl, _, rfl, _, _, rfl, Tp.int z, _, rfl, iteF ⟨_, rfl, fin⟩⟩
      | inr z => exact ⟨rfl, _, rfl, _, _, rfl, Tp.str z, _, rfl, iteT ⟨_, rfl, _, rfl, nd, _, rfl, .inl ⟨_, Sum.inr z, .inl (s3 _ _ hn), rfl, (nmK_val (kn z mk)).symm⟩, by rw [Nat.zero_add]; exact fin⟩⟩
    · rintro H3 ⟨s3, d3⟩
      rw [lx, List.take_length] at d3
      refine ⟨D, _, rfl, .inl ⟨.inl (.inl d3), fun p hp => ?_⟩⟩
      have e : (ks.map fun k => kV (renK us k)) = (ks.map (renK us)).map kV := by
        rw [List.map_map]
        rfl
      rw [e]
      exact k p _ (s3.free hp) (s3.trans (same_new _ hp)) upd_same
def spKnown : Sp := fun vs H Q _ => ∃ (v : V) (nd : Addr) (kk : Key) (us : List Str), vs = [v, .ref nd] ∧ Tp H v (kD kk) ∧ okSy kk ∧ H nd = some (.dK (nmK 0 us)) ∧ Known us [kk] ∧ Q (.bl true) H
abbrev s_is_known_symbol : Stmt := topS 21
abbrev sc_is_known_symbolN : List Str := ["thing", "names"]
abbrev ps_is_known_symbol : List Str := ["thing", "names"]
theorem sc_is_known_symbol : FnScope sc_is_known_symbolN ps_is_known_symbol (defScope s_is_known_symbol) := ⟨rfl, rfl, rfl, by decide +kernel, rfl, by decide +kernel, by decide +kernel⟩
theorem ok_is_known_symbol {f : Addr} {fd : FuncData} (F : Fun K "is_known_symbol" "is_known_symbol" s_is_known_symbol f fd) (T : Txt K mg CS) (D_is_unknown : Df P w K mg base "is_unknown" 1 ps_is_unknown spUnk) (D_is_value : Df P w K mg base "is_value" 2 ps_is_value spIsVal) :
    FnOk P w K mg base CX0 3 f fd ps_is_known_symbol spKnown := by
  refine F.ok sc_is_known_symbol (fun vs H Q E h => ?_) (fun cdv A outer s H vs Q E hr h => ?_)
  · obtain ⟨_, _, _, _, rfl, _⟩ := h
    rfl
  · obtain ⟨v, nd, kk, us, rfl, hv, ok, hn, kn, k⟩ := h
    refine ⟨_, (pss_one (ps_ret (pe_ifExp (pt_val (pe_d D_is_unknown (hr.mono (by decide)) (pa_cons (pv 0) pa_nil))) (pe_cmp (pc_din (Nat.lt_of_le_of_lt (Nat.add_le_add_left (by decide) _) hr.units) (pv 0) (pv 1)) (by rfl)) (pe_d D_is_value (hr.mono (by decide)) (pa_cons (pv 0) pa_nil))))), ?_⟩
    have tv : v = kV kk := kD_tp hv
    subst tv
    cases kk with
    | inl z =>
      refine ⟨_, rfl, _, _, rfl, Tp.int z, _, rfl, iteF ⟨_, rfl, _, _, rfl, Tp.int z, ?_⟩⟩
      rcases kD_val ok with e | ⟨_, e⟩
      · cases e
      · rw [show isValD (.int z) = true from e]
        exact k
    | inr z =>
      refine ⟨_, rfl, _, _, rfl, Tp.str z, _, rfl, iteT ⟨_, rfl, _, rfl, nd, _, rfl, .inl ⟨_, Sum.inr z, .inl hn, rfl, (nmK_val (kn z List.mem_cons_self)).symm⟩, k⟩⟩
/-- powers of unknowns -/
def pwK (pw : List (Str × Int)) : List (Key × V) := pw.map fun p => ((Sum.inr p.1 : Key), V.int p.2)
structure PwOk (pw : List (Str × Int)) (us : List Str) : Prop where
  nd : (pw.map (·.1)).Nodup
  kn : ∀ p ∈ pw, p.1 ∈ us ∧ 1 ≤ p.2 ∧ p.2 ≤ 100
  few : pw.length ≤ 24
theorem pwK_at {pw : List (Str × Int)} {i : Nat} {k : Key} {v : V} (nd : (pw.map (·.1)).Nodup) (h : (pwK pw)[i]? = some (k, v)) : ∃ p ∈ pw, k = .inr p.1 ∧ v = .int p.2 ∧ valV (pwK pw) (Sum.inr p.1) = some (.int p.2) := by
  have h0 := h
  unfold pwK at h
  rw [List.getElem?_map] at h
  obtain ⟨p, hp, e⟩ := Option.map_eq_some_iff.mp h
  cases e
  have nd2 : ((pwK pw).map (·.1)).Nodup := by
    unfold pwK
    rw [List.map_map]
    have e2 : ((fun kv : Key × V => kv.1) ∘ fun p : Str × Int => ((Sum.inr p.1 : Key), V.int p.2)) = Sum.inr ∘ (fun p : Str × Int => p.1) := rfl
    rw [e2, ← List.map_map]
    exact List.Pairwise.map _ (fun a b n z => n (Sum.inr.inj z)) nd
  exact ⟨p, List.mem_of_getElem? hp, rfl, rfl, valV_at nd2 h0⟩
def spPowers : Sp := fun vs H Q _ => ∃ (po nd : Addr) (pw : List (Str × Int)) (us : List Str), vs = [.ref po, .ref nd] ∧ H po = some (.dK (pwK pw)) ∧ H nd = some (.dK (nmK 0 us)) ∧ nd ≠ po ∧ PwOk pw us ∧ ∀ H', Same H H' → Q (.bl true) H'
abbrev s_are_powers : Stmt := topS 22
abbrev sc_are_powersN : List Str := ["thing", "names", "unknown"]
abbrev ps_are_powers : List Str := ["thing", "names"]
theorem sc_are_powers : FnScope sc_are_powersN ps_are_powers (defScope s_are_powers) := ⟨rfl, rfl, rfl, by decide +kernel, rfl, by decide +kernel, by decide +kernel⟩
theorem ok_are_powers {f : Addr} {fd : FuncData} (F : Fun K "are_powers" "are_powers" s_are_powers f fd) (T : Txt K mg CS) (D_is_unknown : Df P w K mg base "is_unknown" 1 ps_is_unknown spUnk) (D_is_integer : Df P w K mg base "is_integer" 1 ps_is_integer spIsInt) :
    FnOk P w K mg base CX0 2 f fd ps_are_powers spPowers := by
  refine F.ok sc_are_powers (fun vs H Q E h => ?_) (fun cdv A outer s H vs Q E hr h => ?_)
  · obtain ⟨_, _, _, _, rfl, _⟩ := h
    rfl
  · obtain ⟨po, nd, pw, us, rfl, hp, hn, nnp, ok, k⟩ := h
    refine ⟨_, (pss_cons (ps_if (PW.pt (pw_or (pt_not (pt_val (pe_callB call_isi (by rfl) T.n_isinstance (by decide +kernel) (pa_cons (pv 0) (pa_cons (pe_bltn (v := .ty "dict") (by rfl) T.n_dict (by decide +kernel) rfl) pa_nil))))) (pw_or1 (pt_not (pt_val (pe_lock (pe_callB (cr_all (by rfl)) (by rfl) T.n_all (by decide +kernel) (pa_cons (pe_lc (own := [("unknown", 2)]) (g := gName 2) (tt := tYes) (by rfl) sc_are_powers.nd (pi_keys (pv 0)) (blkOk_by (own := [("unknown", 2)]) (N := sc_are_powersN) (sc := defScope s_are_powers) (by decide +kernel)) (fun _ _ _ _ _ => pg_name (i := 2) sc_are_powers.nd rfl (Or.inl rfl)) (fun _ _ _ _ _ => pts_nil) (fun _ _ _ _ _ => (pe_and (pe_d D_is_unknown (hr.mono (by decide)) (pa_cons (pv 2) pa_nil)) (pe_one (pe_cmp (pc_din (Nat.lt_of_le_of_lt (Nat.add_le_add_left (by decide) _) hr.units) (pv 2) (pv 1)) (by rfl)))))) pa_nil))))))))
    (pss_one (ps_ret pe_bl))
    pss_nil)
  (pss_one (ps_ret (pe_lock (pe_callB (cr_all (by rfl)) (by rfl) T.n_all (by decide +kernel) (pa_cons (pe_lc (own := [("unknown", 2)]) (g := gName 2) (tt := tYes) (by rfl) sc_are_powers.nd (pi_keys (pv 0)) (blkOk_by (own := [("unknown", 2)]) (N := sc_are_powersN) (sc := defScope s_are_powers) (by decide +kernel)) (fun _ _ _ _ _ => pg_name (i := 2) sc_are_powers.nd rfl (Or.inl rfl)) (fun _ _ _ _ _ => pts_nil) (fun _ _ _ _ _ => (pe_and (pe_d D_is_integer (hr.mono (by decide)) (pa_cons (pe_dget (Nat.lt_of_le_of_lt (Nat.add_le_add_left (by decide) _) hr.units) (pv 0) (pv 2) (fun _ _ => rfl)) pa_nil)) (pe_one (pe_chain op_le op_le pe_int (pe_dget (Nat.lt_of_le_of_lt (Nat.add_le_add_left (by decide) _) hr.units) (pv 0) (pv 2) (fun _ _ => rfl)) (pe_gI T.g_LARGEST_POWER)))))) pa_nil)))))), ?_⟩
    have few := ok.few
    have lp : (pwK pw).length = pw.length := by unfold pwK; rw [List.length_map]
    refine ⟨_, rfl, _, _, _, _, _, rfl, .ty _, .base (.dK hp), kit_ty (b := "dict") (r := true) (by decide +kernel), _, rfl, iteF ?_⟩
    refine ⟨po, .dK (pwK pw), hp, trivial, fun od => ?_⟩
    have back : ∀ {H1 H' : Hp} {od : Obj}, H1 po = some (.dK (pwK pw)) → Same (upd H1 po (.frz od (.dK (pwK pw)))) H' → Same H1 (upd H' po (.dK (pwK pw))) := fun e0 q b o e => by
      by_cases z : b = po
      · rw [z, upd_same]
        rw [z, e0] at e
        exact e
      · rw [upd_ne z]
        exact q b o (by rw [upd_ne z]; exact e)
    have hL : (upd H po (.frz od (.dK (pwK pw)))) po = some (.frz od (.dK (pwK pw))) := upd_same
    have bk : ∀ {H'}, Same (upd H po (.frz od (.dK (pwK pw)))) H' → Same H (upd H' po (.dK (pwK pw))) := fun q => back hp q
    have nL : (upd H po (.frz od (.dK (pwK pw)))) nd = some (.dK (nmK 0 us)) := by rw [upd_ne nnp]; exact hn
    have b1 := fun (H' : Hp) (q : Same (upd H po (.frz od (.dK (pwK pw)))) H') => bk q
    generalize upd H po (.frz od (.dK (pwK pw))) = HL at *
    refine ⟨_, rfl, po, od, rfl, .inl ⟨pwK pw, hL, fun D hD => ?_⟩⟩
    refine lc_it walk_keys (fun i H' => Same HL H' ∧ H' D = some (.lst (((pwK pw).take i).map fun _ => V.bl true))) ⟨same_new _ hD, by rw [upd_same]; rfl⟩ (fun i H' _ z => z.1 _ _ hL) ?_ ?_
    · rintro i x H3 H4 hi ⟨s3, d3⟩ ⟨rfl, kk, v, hk, rfl⟩
      obtain ⟨p, mp, rfl, rfl, hv⟩ := pwK_at ok.nd hk
      obtain ⟨m1, _, _⟩ := ok.kn p mp
      refine ⟨rfl, _, rfl, _, _, rfl, Tp.str p.1, _, rfl, iteT ⟨_, rfl, _, rfl, nd, _, rfl, .inl ⟨_, Sum.inr p.1, .inl (s3 _ _ nL), rfl, (nmK_val m1).symm⟩, ?_⟩⟩
      exact ⟨_, d3, take_lt _ (by omega), same_put s3 _ hD, by rw [upd_same, map_take _ hk]; rfl⟩
    rintro H3 ⟨s3, d3⟩
    rw [List.take_length, bl_map (f := fun _ => true)] at d3
    refine ⟨D, _, rfl, .inl (.inl d3), s3 _ _ hL, ?_⟩
    have ea : ((pwK pw).map fun _ => true).all id = true := by
      rw [List.all_map]
      simp
    rw [ea]
    have s4 := b1 _ s3
    have r4 : (upd H3 po (.dK (pwK pw))) po = some (.dK (pwK pw)) := upd_same
    generalize upd H3 po (.dK (pwK pw)) = H4 at *
    refine ⟨_, rfl, iteF ?_⟩
    refine ⟨po, .dK (pwK pw), r4, trivial, fun od2 => ?_⟩
    have hL2 : (upd H4 po (.frz od2 (.dK (pwK pw)))) po = some (.frz od2 (.dK (pwK pw))) := upd_same
    have b2 := fun (H' : Hp) (q : Same (upd H4 po (.frz od2 (.dK (pwK pw)))) H') => back r4 q
    generalize upd H4 po (.frz od2 (.dK (pwK pw))) = HM at *
    refine ⟨_, rfl, po, od2, rfl, .inl ⟨pwK pw, hL2, fun D2 hD2 => ?_⟩⟩
    refine lc_it walk_keys (fun i H' => Same HM H' ∧ H' D2 = some (.lst (((pwK pw).take i).map fun _ => V.bl true))) ⟨same_new _ hD2, by rw [upd_same]; rfl⟩ (fun i H' _ z => z.1 _ _ hL2) ?_ ?_
    · rintro i x H5 H6 hi ⟨s5, d5⟩ ⟨rfl, kk, v, hk, rfl⟩
      obtain ⟨p, mp, rfl, rfl, hv⟩ := pwK_at ok.nd hk
      obtain ⟨_, e1, e2⟩ := ok.kn p mp
      have g : DGet H6 po (kV (Sum.inr p.1)) (some (.int p.2)) := .inl ⟨_, Sum.inr p.1, .inr ⟨od2, s5 _ _ hL2⟩, rfl, hv.symm⟩
      refine ⟨rfl, _, rfl, _, rfl, po, _, rfl, g, _, _, rfl, Tp.int p.2, _, rfl, iteT ⟨_, rfl, _, rfl, po, _, rfl, g, _, _, rfl, rfl, _, rfl, ifd (fun _ => ⟨_, _, rfl, rfl, ?_⟩) fun n => absurd e1 n⟩⟩
      refine ⟨_, d5, take_lt _ (by omega), same_put s5 _ hD2, ?_⟩
      rw [upd_same, map_take _ hk]
      show some (HO.lst (_ ++ [V.bl (decide (p.2 ≤ 100))])) = _
      rw [decide_eq_true e2]
    rintro H5 ⟨s5, d5⟩
    rw [List.take_length, bl_map (f := fun _ => true)] at d5
    refine ⟨D2, _, rfl, .inl (.inl d5), s5 _ _ hL2, ?_⟩
    rw [ea]
    exact k _ (s4.trans (b2 _ s5))
end
end Fm

/-! ## FmSort -/
set_option Elab.async false
set_option maxRecDepth 100000
set_option maxHeartbeats 4000000
/-! sorted of a list of pairs of a text and a number: the same pairs in some order. -/
namespace Fm
open PySem L2 PySem.Spec
/-- text, number -/
def shSI : Nat → Bool := fun i => i == 0
def rSortedSI (K : PySem.W.Frag) : List V → Hp → VK → Prop := fun vs H Q => ∃ a xs, vs = [V.ref a] ∧ SqL K H a xs ∧ (∀ x ∈ xs, ∃ (t : Addr) (s : Str) (i : Int), x = V.ref t ∧ H t = some (.tup [.str s, .int i])) ∧
  ∀ ys p, ys.Perm xs → H p = none → Q (.ref p) (upd H p (.lst ys))
section
variable {X : Cx}
theorem cr_sortedSI : CallR X (.builtin "sorted") (rSortedSI X.K) := by
  intro pins s σ H vs us Q I r h
  obtain ⟨a, xs, rfl, hs, hx, q⟩ := h
  obtain ⟨its, rv, hl, hz⟩ := I.list hs
  obtain ⟨u, rfl, ru⟩ := r.one
  obtain rfl : u = Value.ref a := ru
  obtain ⟨e1, e2⟩ := refs_back rv fun x m => by
    obtain ⟨t, _, _, e, _⟩ := hx x m
    exact ⟨t, e⟩
  have at_ : ∀ v ∈ its, ∃ t o n x tx i ti, v = Value.ref t ∧ s.heap.get? t = some o ∧ o.cls = .type "tuple" ∧ o.data = .seq #[.str x tx, .int i ti] n := fun v hv => by
    obtain ⟨t, rfl⟩ := e2 v hv
    have hm : V.ref t ∈ xs := by rw [e1]; exact List.mem_map.mpr ⟨_, hv, rfl⟩
    obtain ⟨t', x, i, e, ht⟩ := hx _ hm
    cases e
    obtain ⟨_, its2, r2, o, ho, hc, n, hd⟩ := I.hok _ _ ht
    cases r2 with
    | cons ri rr =>
      cases rr with
      | cons rj rr =>
        cases rr
        obtain ⟨t1, rfl⟩ := ri
        obtain ⟨t2, rfl⟩ := rj
        exact ⟨t, o, n, x, t1, i, t2, rfl, ho, hc, hd⟩
  have tups : ∀ l : List Value, (∀ v ∈ l, v ∈ its) → ∃ fs, PyProof.Rows.TupsOf s.heap shSI l fs := by
    intro l
    induction l with
    | nil => exact fun _ => ⟨[], .nil⟩
    | cons v l ih =>
      intro m
      obtain ⟨fs, hf⟩ := ih fun u mu => m u (List.mem_cons_of_mem _ mu)
      obtain ⟨t, o, n, x, tx, i, ti, rfl, ho, hc, hd⟩ := at_ v (m v List.mem_cons_self)
      exact ⟨.str x tx :: fs, .cons ⟨t, o, _, n, rfl, ho, hc, hd, rfl, (fun z => by cases z), fun _ => ⟨x, tx, rfl⟩⟩ hf⟩
  obtain ⟨fs, hf⟩ := tups its fun v m => m
  refine PyProof.Rows.G.sorted_tups (shape := shSI) hl.isList hf (fun v hv => ?_) (by rw [← rv.length]; exact hz) fun st' hp _ _ => ?_
  · obtain ⟨t, o, n, x, tx, i, ti, rfl, ho, hc, hd⟩ := at_ v hv
    refine ⟨[Sum.inr x.cps.toList, Sum.inl i], ?_⟩
    unfold PyProof.Rows.G.tupKeyC
    rw [if_pos (by unfold PyProof.Rows.G.isTupObj; simp [ho, hc])]
    unfold PyProof.Rows.tupKey
    simp [ho, hd, PyProof.Rows.tupItems, shSI]
  · have hp2 : ((PyProof.Rows.arrOf st').map (·.2)).toList.Perm its := by
      have z := hp.toList.map (·.2)
      rw [PyProof.Rows.pairsOf_toList] at z
      rw [Array.toList_map]
      refine z.trans ?_
      rw [List.map_snd_zip (Nat.le_refl _)]
    have h3 : ∀ u ∈ ((PyProof.Rows.arrOf st').map (·.2)).toList, ∃ a, u = Value.ref a := fun u hu => e2 u (hp2.mem_iff.mp hu)
    obtain ⟨n, hn⟩ := PyProof.Rows.sortedAll_at s.heap its ((PyProof.Rows.arrOf st').map (·.2))
    refine ⟨.ref (s.heap.objs.size + 1), upd H (s.heap.objs.size + 1) (.lst (((PyProof.Rows.arrOf st').map (·.2)).toList.map backV)), I.laid (t' := s.toks) (fun b o e => PyProof.Rows.sortedAll_old e) (Nat.le_succ _) ⟨?_, _, n, vals_back h3, hn⟩, rfl, q _ _ ?_ (I.hok.fresh (Nat.le_succ _))⟩
    · rw [List.length_map, hp2.length_eq, ← rv.length]; exact hz
    · rw [e1]; exact hp2.map backV
end
end Fm

/-! ## K32Z -/
set_option Elab.async false
set_option maxRecDepth 100000
set_option maxHeartbeats 4000000
namespace Fm
open PySem L2
theorem cut_mono {H H' : Hp} {r : Addr} (s : Same H H') : Same (cut H r) (cut H' r) := fun a o e => by
  have n : a ≠ r := fun z => by rw [z, cut_at] at e; cases e
  rw [cut_ne n] at e ⊢
  exact s a o e
theorem cut_put {H : Hp} {r : Addr} {o : HO} : cut (upd H r o) r = cut H r := funext fun a => by
  by_cases n : a = r
  · rw [n, cut_at, cut_at]
  · rw [cut_ne n, cut_ne n, upd_ne n]
theorem same_cut2 {H : Hp} {r s : Addr} {o : HO} : Same (cut (cut H r) s) (cut (cut (upd H r o) r) s) := by
  rw [cut_put]
  exact Same.refl _
/-- what is not at x stays -/
def SameX (x : Addr) (H H' : Hp) : Prop := ∀ b o, b ≠ x → H b = some o → H' b = some o
theorem SameX.of {x : Addr} {H H' : Hp} (s : Same H H') : SameX x H H' := fun b o _ e => s b o e
theorem SameX.trans {x : Addr} {H H1 H2 : Hp} (s : SameX x H H1) (t : SameX x H1 H2) : SameX x H H2 := fun b o n e => t b o n (s b o n e)
theorem SameX.put {x : Addr} {H H1 : Hp} (s : SameX x H H1) (o : HO) : SameX x H (upd H1 x o) := fun b u n e => by
  rw [upd_ne n]
  exact s b u n e
theorem SameX.cut {x : Addr} {H H1 : Hp} (s : SameX x H H1) : Same (cut H x) (cut H1 x) := fun b o e => by
  have n : b ≠ x := fun z => by rw [z, cut_at] at e; cases e
  rw [cut_ne n] at e ⊢
  exact s b o n e
theorem ne_ins {H : Hp} {x a C dx : Addr} {fs : List (Str × V)} {o : HO} (h : H x = some (.ins C dx fs)) (e : H a = some o) (n : o ≠ .ins C dx fs) : a ≠ x := fun z => by
  rw [z, h] at e
  exact n (Option.some.inj e).symm
theorem TpAll.perm {H : Hp} : ∀ {us vs : List V}, us.Perm vs → ∀ {α : Type} {f : α → PyData} {ds : List α}, TpAll H vs (ds.map f) → ∃ es : List α, es.Perm ds ∧ TpAll H us (es.map f) := by
  intro us vs p
  induction p with
  | nil => intro α f ds h; exact ⟨ds, .refl _, h⟩
  | cons x _ ih =>
    intro α f ds h
    cases ds with
    | nil => cases h
    | cons d ds =>
      cases h with
      | cons h1 h2 =>
        obtain ⟨es, q1, q2⟩ := ih h2
        exact ⟨d :: es, q1.cons d, .cons h1 q2⟩
  | swap x y l =>
    intro α f ds h
    cases ds with
    | nil => cases h
    | cons d ds => cases ds with
      | nil => cases h with
        | cons h1 h2 => cases h2
      | cons e ds =>
        cases h with
        | cons h1 h2 => cases h2 with
          | cons h3 h4 => exact ⟨e :: d :: ds, .swap d e ds, .cons h3 (.cons h1 h4)⟩
  | trans _ _ ih1 ih2 =>
    intro α f ds h
    obtain ⟨es, q1, q2⟩ := ih2 h
    obtain ⟨gs, q3, q4⟩ := ih1 q2
    exact ⟨gs, q3.trans q1, q4⟩
def renR (us : List Str) (r : PRow) : PRow := (r.1, r.2.map (renK us))
/-- a pattern without powers -/
def ptF (v1 v2 v3 : V) : List (Str × V) := [("rows", v1), ("group", v2), ("powers", v3)]
/-- a power, as data -/
def pwD (p : Str × Int) : PyData := .tuple [.str p.1, .int p.2]
def PatAt (CP : Addr) (H : Hp) (x : Addr) (rs : List PRow) (g : List Key) (us : List Str) (pw : List (Str × Int)) : Prop := ∃ dx v1 v2 v3, H x = some (.ins CP dx (ptF v1 v2 v3)) ∧ Tp (cut H x) v1 (rowsD false rs) ∧ Tp (cut H x) v2 (.tuple (g.map kD)) ∧ ∃ L : List (Str × Int), L.Perm (pw.map fun p => (lt (us.idxOf p.1), p.2)) ∧ Tp (cut H x) v3 (.tuple (L.map pwD))
theorem pw_keep {H H' : Hp} (s : ∀ b xs, H b = some (.tup xs) → H' b = some (.tup xs)) : ∀ {L : List (Str × Int)} {ys : List V}, TpAll H ys (L.map pwD) → TpAll H' ys (L.map pwD)
  | [], _, h => by cases h; exact .nil
  | p :: L, _, h => by
    cases h with
    | cons h1 h2 =>
      obtain ⟨c, zs, rfl, hc, tz⟩ := (show Tp H _ (.tuple [.str p.1, .int p.2]) from h1).tuple
      cases tz with
      | cons g1 g2 => cases g2 with
        | cons g3 g4 =>
          cases g4
          rw [g1.strI, g3.intI] at hc
          exact .cons (.tup (s _ _ hc) (.cons (.str _) (.cons (.int _) .nil))) (pw_keep s h2)
structure Tx5 (K : PySem.W.Frag) (mg : Str → Option Value) (CP : Addr) : Prop where
  g_Pattern : mg "Pattern" = some (.ref CP)
  clP : Cls K CP
  nR : NoAttr K CP "rows"
  nG : NoAttr K CP "group"
  nP : NoAttr K CP "powers"
section
variable {P : Program} {w : World} {K : PySem.W.Frag} {mg : Str → Option Value} {base : Heap} {CS CP : Addr}
/-- the rows with their own names -/
def named2 (rs : List PRow) : List PRow := rs.map (renR (unks rs))
def spPatI (CP : Addr) : Sp := fun vs H Q _ => ∃ (x dx po : Addr) (v g : V) (b c : Bool) (rs : List PRow) (ks : List Key) (pw : List (Str × Int)), vs = [.ref x, v, g, .ref po] ∧ H x = some (.ins CP dx []) ∧ Tp (cut H x) v (rowsD b rs) ∧ Tp (cut H x) g (seqD c (ks.map kD)) ∧ H po = some (.dK (pwK pw)) ∧ PwOk pw (unks rs) ∧ RsOk rs ∧ ks.length ≤ 3 ∧ (∀ k ∈ ks, okSy k) ∧ Known (unks rs) ks ∧
  ∀ H', SameX x H H' → PatAt CP H' x (named2 rs) (ks.map (renK (unks rs))) (unks rs) pw → Q .non H'
abbrev s_Pattern_init : Stmt := inClass (topS 17) 0
abbrev sc_Pattern_initN : List Str := ["self", "rows", "group", "powers", "names", "symbol", "table", "symbols", "unknown"]
abbrev ps_Pattern_init : List Str := ["self", "rows", "group", "powers"]
theorem sc_Pattern_init : FnScope sc_Pattern_initN ps_Pattern_init (defScope s_Pattern_init) := ⟨rfl, rfl, rfl, by decide +kernel, rfl, by decide +kernel, by decide +kernel⟩
theorem ok_Pattern_init {f : Addr} {fd : FuncData} (F : Fun K "__init__" "Pattern.__init__" s_Pattern_init f fd) (T : Txt K mg CS) (T5 : Tx5 K mg CP) (D_are_pattern_rows : Df P w K mg base "are_pattern_rows" 4 ps_are_pattern_rows spPRows) (D_named : Df P w K mg base "named" 3 ps_named spNamed) (D_is_row : Df P w K mg base "is_row" 1 ps_is_row (spIsRow K))
    (D_is_known_symbol : Df P w K mg base "is_known_symbol" 3 ps_is_known_symbol spKnown) (D_are_powers : Df P w K mg base "are_powers" 2 ps_are_powers spPowers) (D_renamed : Df P w K mg base "renamed" 2 ps_renamed spRenamed) :
    FnOk P w K mg base CX0 5 f fd ps_Pattern_init (spPatI CP) := by
  refine F.ok sc_Pattern_init (fun vs H Q E h => ?_) (fun cdv A outer s H vs Q E hr h => ?_)
  · obtain ⟨_, _, _, _, _, _, _, _, _, _, rfl, _⟩ := h
    rfl
  · obtain ⟨x, dx, po, v, g, b, c, rs, ks, pw, rfl, hx, hv, hg, hp, pok, ok, l3, oks, kn, k⟩ := h
    refine ⟨_, (pss_cons (ps_if (pt_not (pt_val (pe_d D_are_pattern_rows (hr.mono (by decide)) (pa_cons (pv 1) pa_nil))))
    (pss_one ps_never)
    pss_nil)
  (pss_cons (ps_set (i := 4) sc_Pattern_init.nd rfl (Or.inr rfl) (pe_d D_named (hr.mono (by decide)) (pa_cons (pv 1) pa_nil)))
  (pss_cons (ps_if (PW.pt (pw_or (pt_not (pt_val (pe_d D_is_row (hr.mono (by decide)) (pa_cons (pv 2) (pa_cons pe_int (pa_cons (pe_gI T.g_LONGEST_GROUP) pa_nil)))))) (pw_or1 (pt_not (pt_val (pe_callB (cr_all (by rfl)) (by rfl) T.n_all (by decide +kernel) (pa_cons (pe_lc (own := [("symbol", 5)]) (g := gName 5) (tt := tYes) (by rfl) sc_Pattern_init.nd (pi_any (pv 2)) (blkOk_by (own := [("symbol", 5)]) (N := sc_Pattern_initN) (sc := defScope s_Pattern_init) (by decide +kernel)) (fun _ _ _ _ _ => pg_name (i := 5) sc_Pattern_init.nd rfl (Or.inl rfl)) (fun _ _ _ _ _ => pts_nil) (fun _ _ _ _ _ => (pe_d D_is_known_symbol (hr.mono (by decide)) (pa_cons (pv 5) (pa_cons (pv 4) pa_nil))))) pa_nil)))))))
    (pss_one ps_never)
    pss_nil)
  (pss_cons (ps_if (pt_not (pt_val (pe_d D_are_powers (hr.mono (by decide)) (pa_cons (pv 3) (pa_cons (pv 4) pa_nil)))))
    (pss_one ps_never)
    pss_nil)
  (pss_cons (ps_fld (pv 0) (pe_callTy call_tuple_of (by rfl) T.n_tuple (by decide +kernel) (pa_cons (pe_lc (own := [("table", 6), ("symbols", 7)]) (g := gTup K 2 (gCons (gName 6) (gCons (gName 7) gNil))) (tt := tYes) (by rfl) sc_Pattern_init.nd (pi_any (pv 1)) (blkOk_by (own := [("table", 6), ("symbols", 7)]) (N := sc_Pattern_initN) (sc := defScope s_Pattern_init) (by decide +kernel)) (fun _ _ _ _ _ => pg_tup (by rfl) (pgs_cons (pg_name (i := 6) sc_Pattern_init.nd rfl (Or.inl rfl)) (pgs_cons (pg_name (i := 7) sc_Pattern_init.nd rfl (Or.inl rfl)) pgs_nil))) (fun _ _ _ _ _ => pts_nil) (fun _ _ _ _ _ => (pe_tup (pa_cons (pv 6) (pa_cons (pe_d D_renamed (hr.mono (by decide)) (pa_cons (pv 7) (pa_cons (pv 4) pa_nil))) pa_nil))))) pa_nil)) rfl)
  (pss_cons (ps_fld (pv 0) (pe_d D_renamed (hr.mono (by decide)) (pa_cons (pv 2) (pa_cons (pv 4) pa_nil))) rfl)
  (pss_one (ps_fld (pv 0) (pe_callTy call_tuple_of (by rfl) T.n_tuple (by decide +kernel) (pa_cons (pe_lock (pe_callB cr_sortedSI (by rfl) T.n_sorted (by decide +kernel) (pa_cons (pe_lc (own := [("unknown", 8)]) (g := gName 8) (tt := tYes) (by rfl) sc_Pattern_init.nd (pi_keys (pv 3)) (blkOk_by (own := [("unknown", 8)]) (N := sc_Pattern_initN) (sc := defScope s_Pattern_init) (by decide +kernel)) (fun _ _ _ _ _ => pg_name (i := 8) sc_Pattern_init.nd rfl (Or.inl rfl)) (fun _ _ _ _ _ => pts_nil) (fun _ _ _ _ _ => (pe_tup (pa_cons (pe_dget (Nat.lt_of_le_of_lt (Nat.add_le_add_left (by decide) _) hr.units) (pv 4) (pv 8) (fun _ _ => rfl)) (pa_cons (pe_dget (Nat.lt_of_le_of_lt (Nat.add_le_add_left (by decide) _) hr.units) (pv 3) (pv 8) (fun _ _ => rfl)) pa_nil))))) pa_nil))) pa_nil)) rfl)))))))), ?_⟩
    have few : RsFew rs := ⟨ok.1, fun r m => (ok.2 r m).hi⟩
    have hv0 := hv.same cut_sub
    have hg0 := hg.same cut_sub
    refine ⟨_, rfl, _, b, rs, rfl, hv0, ok, fun H1 s1 => ⟨_, rfl, iteF ?_⟩⟩
    refine ⟨_, rfl, _, b, rs, rfl, hv0.same s1, few, fun nd H2 nnd s2 hnd => ?_⟩
    have s02 := s1.trans s2
    refine ⟨_, rfl, _, _, 0, 3, rfl, hg0.same s02, fun H3 s3 => ⟨_, rfl, ?_⟩⟩
    have er : rowD3 0 3 (seqD c (ks.map kD)) = true := by
      unfold rowD3
      rw [seqD_row, seqD_parts, List.length_map, decide_eq_true (by omega), decide_eq_true (by omega)]
      rfl
    rw [er]
    refine iteF ?_
    have s03 := s02.trans s3
    have hnd3 := s3 _ _ hnd
    obtain ⟨ga, gx, rfl, hgx, tg⟩ := hg0.row (seqD_row c _)
    rw [seqD_parts] at tg
    have lg := tg.len
    rw [List.length_map] at lg
    refine ⟨_, rfl, ga, gx, rfl, any_of (K := K) (rw_sq hgx) s03 fun J G gm wk D hD => ?_⟩
    refine lc_it wk (fun i H' => Same H3 H' ∧ H' D = some (.lst ((ks.take i).map fun _ => V.bl true))) ⟨same_new _ hD, by rw [upd_same]; rfl⟩ (fun i H' _ z => gm H' (s03.trans z.1)) ?_ ?_
    · rintro i y H4 H5 hi ⟨s4, d4⟩ ⟨rfl, hy⟩
      obtain ⟨z, hz, tz⟩ := tg.at hy
      rw [List.getElem?_map] at hz
      obtain ⟨kk, hk, rfl⟩ := Option.map_eq_some_iff.mp hz
      have mk := List.mem_of_getElem? hk
      refine ⟨rfl, _, rfl, _, rfl, y, nd, kk, unks rs, rfl, tz.same (s03.trans s4), oks kk mk, s4 _ _ hnd3, fun s m => kn s (by rw [List.mem_singleton] at m; rw [m]; exact mk), ?_⟩
      exact ⟨_, d4, take_lt _ (by omega), same_put s4 _ hD, by rw [upd_same, map_take _ hk]⟩
    rintro H4 ⟨s4, d4⟩
    rw [lg, List.take_length, bl_map (f := fun _ => true)] at d4
    refine ⟨D, _, rfl, .inl (.inl d4), ?_⟩
    have ea : (ks.map fun _ => true).all id = true := by
      rw [List.all_map]
      simp
    rw [ea]
    refine ⟨_, rfl, iteF ?_⟩
    have s04 := s03.trans s4
    refine ⟨_, rfl, _, rfl, po, nd, pw, unks rs, rfl, s04 _ _ hp, s4 _ _ hnd3, Ne.symm (ne_of_none (s1 _ _ hp) nnd), pok, fun H5 s5 => ⟨_, rfl, iteF ?_⟩⟩
    have s05 := s04.trans s5
    have hnd5 := s5 _ _ (s4 _ _ hnd3)
    have hv5 := hv.same (cut_mono s05)
    have hg5 := hg.same (cut_mono s05)
    have hx5 := s05 _ _ hx
    have hp5 := s05 _ _ hp
    obtain ⟨ra, rx, rfl, hrx, tr⟩ := (show Tp (cut H5 x) v (seqD b (rs.map (prowD b))) from hv5).row (seqD_row b _)
    rw [seqD_parts] at tr
    have lr := tr.len
    rw [List.length_map] at lr
    have l6 := ok.1
    refine ⟨_, rfl, ra, rx, rfl, any_of (K := K) (rw_sq hrx) cut_sub fun J2 G2 gm2 wk2 D2 hD2 => ?_⟩
    refine lc_it wk2 (fun i H' => Same H5 H' ∧ ∃ ys, H' D2 = some (.lst ys) ∧ TpAll (cut (cut H' D2) x) ys (((rs.take i).map (renR (unks rs))).map (prowD false))) ⟨same_new _ hD2, [], upd_same, .nil⟩ (fun i H' _ z => gm2 H' (cut_sub.trans z.1)) ?_ ?_
    · rintro i y H6 H7 hi ⟨s6, ys, d6, t6⟩ ⟨rfl, hy⟩
      obtain ⟨z, hz, tz⟩ := tr.at hy
      rw [List.getElem?_map] at hz
      obtain ⟨r, hk, rfl⟩ := Option.map_eq_some_iff.mp hz
      have mr := List.mem_of_getElem? hk
      obtain ⟨p, q, rfl, hp6, xs, hq, tq, th⟩ := row_at (tz.same (cut_sub.trans s6))
      have kr : Known (unks rs) r.2 := fun s m => unks_mem.mpr ⟨r, mr, m⟩
      refine ⟨p, _, rfl, .inl (.inl hp6), rfl, _, _, rfl, _, _, rfl, rfl, rfl, _, rfl, _, rfl, _, rfl, _, nd, b, r.2, unks rs, rfl, th, (ok.2 r mr).hi, s6 _ _ hnd5, kr, fun e H7 ne s7 he => ?_⟩
      have d7 := s7 _ _ d6
      have nx7 : H7 x = some (.ins CP dx []) := s7 _ _ (s6 _ _ hx5)
      refine ⟨(by show 2 ≤ sizeLine; decide), fun tp htp => ?_⟩
      have s8 : Same H7 (upd H7 tp (.tup [.str r.1, .ref e])) := same_new _ htp
      refine ⟨ys, s8 _ _ d7, ?_, same_put ((s6.trans s7).trans s8) _ hD2, ys ++ [.ref tp], upd_same, ?_⟩
      · have z := t6.len
        rw [List.length_map, List.length_map, List.length_take] at z
        exact Nat.lt_of_le_of_lt (show _ ≤ 6 by omega) (by decide)
      · have nD : tp ≠ D2 := Ne.symm (ne_of_none d7 htp)
        have nx : tp ≠ x := Ne.symm (ne_of_none nx7 htp)
        have eD : e ≠ D2 := fun z => by rw [z, d7] at he; cases he
        have ex : e ≠ x := fun z => by rw [z, nx7] at he; cases he
        rw [map_take _ hk, List.map_append, cut_put]
        refine TpAll.snoc (t6.same (cut_mono (cut_mono (s7.trans s8)))) ?_
        refine .tup (xs := [.str r.1, .ref e]) (by rw [cut_ne nx, cut_ne nD, upd_same]) (.cons (.str _) (.cons (.tup (xs := (r.2.map (renK (unks rs))).map kV) ?_ (keys_tp _)) .nil))
        rw [cut_ne ex, cut_ne eD]
        exact s8 _ _ he
    rintro H6 ⟨s6, ys, d6, t6⟩
    rw [lr, List.take_length] at t6
    refine ⟨D2, _, rfl, .inl ⟨.inl (.inl d6), fun p hp6 => ?_⟩⟩
    have nx6 : H6 x = some (.ins CP dx []) := s6 _ _ hx5
    have npD : p ≠ D2 := Ne.symm (ne_of_none d6 hp6)
    have npx : p ≠ x := Ne.symm (ne_of_none nx6 hp6)
    have s7 : Same H6 (upd H6 p (.tup ys)) := same_new _ hp6
    refine ⟨_, rfl, x, CP, dx, _, rfl, s7 _ _ nx6, T5.clP, T5.nR, (by show 0 < 1000; decide), ?_⟩
    have t7 : Tp (cut (upd H6 p (.tup ys)) x) (.ref p) (rowsD false (named2 rs)) := .tup (by rw [cut_ne npx, upd_same]) (t6.same ((cut_mono cut_sub).trans (cut_mono s7)))
    have X7 : SameX x H (upd (upd H6 p (.tup ys)) x (.ins CP dx (putF "rows" (.ref p) []))) := (SameX.of ((s05.trans s6).trans s7)).put _
    have x7 : (upd (upd H6 p (.tup ys)) x (.ins CP dx (putF "rows" (.ref p) []))) x = some (.ins CP dx [("rows", .ref p)]) := upd_same
    have c7 : cut (upd (upd H6 p (.tup ys)) x (.ins CP dx (putF "rows" (.ref p) []))) x = cut (upd H6 p (.tup ys)) x := cut_put
    rw [← c7] at t7
    have nnd2 : nd ≠ x := fun z => by rw [z, hx5] at hnd5; cases hnd5
    have npo : po ≠ x := fun z => by rw [z, hx5] at hp5; cases hp5
    have hnd7 : (upd (upd H6 p (.tup ys)) x (.ins CP dx (putF "rows" (.ref p) []))) nd = some (.dK (nmK 0 (unks rs))) := by rw [upd_ne nnd2]; exact s7 _ _ (s6 _ _ hnd5)
    generalize upd (upd H6 p (.tup ys)) x (.ins CP dx (putF "rows" (.ref p) [])) = H7 at *
    refine ⟨_, rfl, _, rfl, _, nd, c, ks, unks rs, rfl, (hg.same X7.cut).same cut_sub, by omega, hnd7, kn, fun q H8 nq s8 hq => ?_⟩
    have x8 := s8 _ _ x7
    have nqx : q ≠ x := Ne.symm (ne_of_none x7 nq)
    refine ⟨_, rfl, x, CP, dx, _, rfl, x8, T5.clP, T5.nG, (by show 1 < 1000; decide), ?_⟩
    have t8 := t7.same (cut_mono s8)
    have g8 : Tp (cut H8 x) (.ref q) (.tuple ((ks.map (renK (unks rs))).map kD)) := .tup (by rw [cut_ne nqx]; exact hq) (keys_tp _)
    have X8 : SameX x H (upd H8 x (.ins CP dx (putF "group" (.ref q) [("rows", .ref p)]))) := (X7.trans (SameX.of s8)).put _
    have x9 : (upd H8 x (.ins CP dx (putF "group" (.ref q) [("rows", .ref p)]))) x = some (.ins CP dx [("rows", .ref p), ("group", .ref q)]) := upd_same
    have c8 : cut (upd H8 x (.ins CP dx (putF "group" (.ref q) [("rows", .ref p)]))) x = cut H8 x := cut_put
    rw [← c8] at t8 g8
    have hp8 : (upd H8 x (.ins CP dx (putF "group" (.ref q) [("rows", .ref p)]))) po = some (.dK (pwK pw)) := X8 _ _ npo hp
    have nd8 : (upd H8 x (.ins CP dx (putF "group" (.ref q) [("rows", .ref p)]))) nd = some (.dK (nmK 0 (unks rs))) := by rw [upd_ne nnd2]; exact s8 _ _ hnd7
    generalize upd H8 x (.ins CP dx (putF "group" (.ref q) [("rows", .ref p)])) = H9 at *
    refine ⟨po, .dK (pwK pw), hp8, trivial, fun od => ?_⟩
    have nnp : nd ≠ po := Ne.symm (ne_of_none (s1 _ _ hp) nnd)
    have back : ∀ {H1 H' : Hp} {od : Obj}, H1 po = some (.dK (pwK pw)) → Same (upd H1 po (.frz od (.dK (pwK pw)))) H' → Same H1 (upd H' po (.dK (pwK pw))) := fun e0 q b o e => by
      by_cases z : b = po
      · rw [z, upd_same]
        rw [z, e0] at e
        exact e
      · rw [upd_ne z]
        exact q b o (by rw [upd_ne z]; exact e)
    have hL : (upd H9 po (.frz od (.dK (pwK pw)))) po = some (.frz od (.dK (pwK pw))) := upd_same
    have nL : (upd H9 po (.frz od (.dK (pwK pw)))) nd = some (.dK (nmK 0 (unks rs))) := by rw [upd_ne nnp]; exact nd8
    have xL : (upd H9 po (.frz od (.dK (pwK pw)))) x = some (.ins CP dx [("rows", .ref p), ("group", .ref q)]) := by rw [upd_ne (Ne.symm npo)]; exact x9
    have b1 := fun (H' : Hp) (q : Same (upd H9 po (.frz od (.dK (pwK pw)))) H') => back hp8 q
    generalize upd H9 po (.frz od (.dK (pwK pw))) = HL at *
    refine ⟨_, rfl, po, od, rfl, .inl ⟨pwK pw, hL, fun D3 hD3 => ?_⟩⟩
    have lpw : (pwK pw).length = pw.length := by unfold pwK; rw [List.length_map]
    have l24 := pok.few
    refine lc_it walk_keys (fun i H' => Same HL H' ∧ ∃ ys, H' D3 = some (.lst ys) ∧ TpAll (cut (cut H' D3) x) ys (((pw.take i).map fun p => (lt ((unks rs).idxOf p.1), p.2)).map pwD)) ⟨same_new _ hD3, [], upd_same, .nil⟩ (fun i H' _ z => z.1 _ _ hL) ?_ ?_
    · rintro i y H10 H11 hi ⟨s10, ys, d10, t10⟩ ⟨rfl, kk, v, hk, rfl⟩
      have hk2 := hk
      unfold pwK at hk2
      rw [List.getElem?_map] at hk2
      obtain ⟨pp, hpp, ee⟩ := Option.map_eq_some_iff.mp hk2
      obtain ⟨p', mp, ek, ev, hv⟩ := pwK_at pok.nd hk
      cases ee
      have epp : p'.1 = pp.1 := (Sum.inr.inj ek).symm
      have ep2 : p'.2 = pp.2 := (V.int.inj ev).symm
      rw [epp, ep2] at hv
      obtain ⟨m1, _, _⟩ := pok.kn p' mp
      rw [epp] at m1
      refine ⟨rfl, _, rfl, _, rfl, nd, _, rfl, .inl ⟨_, Sum.inr pp.1, .inl (s10 _ _ nL), rfl, (nmK_val m1).symm⟩, _, rfl, _, rfl, po, _, rfl, .inl ⟨_, Sum.inr pp.1, .inr ⟨od, s10 _ _ hL⟩, rfl, hv.symm⟩, (by show 2 ≤ sizeLine; decide), fun tp htp => ?_⟩
      have s11 : Same H11 (upd H11 tp (.tup [.str (lt (0 + (unks rs).idxOf pp.1)), .int pp.2])) := same_new _ htp
      have x10 := s10 _ _ xL
      have nt1 : tp ≠ D3 := Ne.symm (ne_of_none d10 htp)
      have nt2 : tp ≠ x := Ne.symm (ne_of_none x10 htp)
      have ly := t10.len
      rw [List.length_map, List.length_map, List.length_take] at ly
      refine ⟨ys, s11 _ _ d10, Nat.lt_of_le_of_lt (show _ ≤ 24 by omega) (by decide), same_put (s10.trans s11) _ hD3, ys ++ [.ref tp], upd_same, ?_⟩
      rw [cut_put, map_take _ hpp, List.map_append]
      refine TpAll.snoc (t10.same (cut_mono (cut_mono s11))) (.tup (xs := [.str (lt ((unks rs).idxOf pp.1)), .int pp.2]) ?_ (.cons (.str _) (.cons (.int _) .nil)))
      rw [cut_ne nt2, cut_ne nt1, upd_same, Nat.zero_add]
    rintro H10 ⟨s10, ys, d10, t10⟩
    rw [lpw, List.take_length] at t10
    refine ⟨D3, ys, rfl, .inl (.inl d10), fun y my => ?_, fun ys2 q2 pm nq2 => ?_⟩
    · obtain ⟨j, hj⟩ := List.getElem?_of_mem my
      obtain ⟨dd, hdd, td⟩ := t10.at hj
      rw [List.getElem?_map] at hdd
      obtain ⟨pp, _, rfl⟩ := Option.map_eq_some_iff.mp hdd
      obtain ⟨c1, zs, rfl, hc1, tz⟩ := (show Tp _ y (.tuple [.str pp.1, .int pp.2]) from td).tuple
      cases tz with
      | cons h1 h2 => cases h2 with
        | cons h3 h4 =>
          cases h4
          rw [h1.strI, h3.intI] at hc1
          exact ⟨c1, pp.1, pp.2, rfl, cut_sub _ _ (cut_sub _ _ hc1)⟩
    obtain ⟨L, pL, tL⟩ := t10.perm pm
    refine ⟨(same_new _ nq2) _ _ (s10 _ _ hL), ?_⟩
    have s11 : Same H9 (upd (upd H10 q2 (.lst ys2)) po (.dK (pwK pw))) := b1 _ (s10.trans (same_new _ nq2))
    have q11 : (upd (upd H10 q2 (.lst ys2)) po (.dK (pwK pw))) q2 = some (.lst ys2) := by
      rw [upd_ne, upd_same]
      intro z
      have y := s10 po _ hL
      rw [← z, nq2] at y
      cases y
    have t11 : TpAll (cut (upd (upd H10 q2 (.lst ys2)) po (.dK (pwK pw))) x) ys2 (L.map pwD) := by
      refine pw_keep (fun b zs e => ?_) tL
      have e1 := cut_sub _ _ e
      have e2 := cut_sub _ _ e1
      have nbx : b ≠ x := fun z => by rw [z, cut_at] at e; cases e
      have nbp : b ≠ po := fun z => by rw [z, s10 _ _ hL] at e2; cases e2
      rw [cut_ne nbx, upd_ne nbp, upd_ne (ne_of_none e2 nq2)]
      exact e2
    generalize upd (upd H10 q2 (.lst ys2)) po (.dK (pwK pw)) = H11 at *
    refine ⟨q2, ys2, rfl, .inl ⟨.inl (.inl q11), fun u nu => ?_⟩⟩
    have s12 : Same H11 (upd H11 u (.tup ys2)) := same_new _ nu
    have x11 := s12 _ _ (s11 _ _ x9)
    have nux : u ≠ x := Ne.symm (ne_of_none (s11 _ _ x9) nu)
    refine ⟨_, rfl, x, CP, dx, _, rfl, x11, T5.clP, T5.nP, (by show 2 < 1000; decide), ?_⟩
    refine k _ ((X8.trans (SameX.of (s11.trans s12))).put _) ⟨dx, .ref p, .ref q, .ref u, upd_same, ?_, ?_, L, pL, ?_⟩
    · rw [cut_put]
      exact t8.same (cut_mono (s11.trans s12))
    · rw [cut_put]
      exact g8.same (cut_mono (s11.trans s12))
    · rw [cut_put]
      exact .tup (by rw [cut_ne nux, upd_same]) (t11.same (cut_mono s12))
end
end Fm

/-! ## K32XA -/
set_option Elab.async false
set_option maxRecDepth 100000
set_option maxHeartbeats 4000000
namespace Fm
open PySem L2
/-- F is what is spoken of: G, which stays, and lists and dicts that are filled -/
structure Fl (G F H : Hp) (b : Addr) : Prop where
  gf : Same G F
  bag : Bag F H b
theorem Fl.new {G F H : Hp} {b t : Addr} (f : Fl G F H b) (o : HO) (h : H t = none) : Fl (upd G t o) (upd F t o) (upd H t o) b := ⟨same_upd f.gf t o, f.bag.new o h⟩
theorem Fl.alloc {G F H : Hp} {b t : Addr} (f : Fl G F H b) (o : HO) (h : H t = none) : Fl G (upd F t o) (upd H t o) b := ⟨same_upd1 f.gf o (f.bag.fh.free h), f.bag.new o h⟩
theorem Fl.put {G F H : Hp} {b p : Addr} {o : HO} (f : Fl G F H b) (o' : HO) (g : G p = none) (e : F p = some o) : Fl G (upd F p o') (upd H p o') b := ⟨same_put f.gf o' g, f.bag.put o' e⟩
theorem Fl.keep {G F H : Hp} {b p : Addr} {o : HO} (f : Fl G F H b) (e : F p = some o) : Fl (upd G p o) F H b := ⟨fun a u z => by
  by_cases q : a = p
  · subst q
    rw [upd_same] at z
    cases z
    exact e
  · rw [upd_ne q] at z
    exact f.gf a u z, f.bag⟩
theorem Fl.on {G F H H' : Hp} {b : Addr} (f : Fl G F H b) (B : Bag F H' b) : Fl G F H' b := ⟨f.gf, B⟩
theorem Fl.up {G F F' H H' : Hp} {b : Addr} (f : Fl G F H b) (s : Same F F') (B : Bag F' H' b) : Fl G F' H' b := ⟨f.gf.trans s, B⟩
theorem Fl.free {G F H : Hp} {b t : Addr} (f : Fl G F H b) (h : H t = none) : F t = none ∧ G t = none := ⟨f.bag.fh.free h, f.gf.free (f.bag.fh.free h)⟩
theorem Fl.at {G F H : Hp} {b p : Addr} {o : HO} (f : Fl G F H b) (e : F p = some o) : H p = some o := f.bag.fh _ _ e
theorem Fl.in {G F H : Hp} {b p : Addr} {o : HO} (f : Fl G F H b) (e : G p = some o) : H p = some o := f.bag.fh _ _ (f.gf _ _ e)
section
variable {P : Program} {w : World} {K : PySem.W.Frag} {mg : Str → Option Value} {base : Heap} {CS : Addr}
def spTables : Sp := fun vs H Q _ => ∃ (F : Hp) (b : Addr), vs = [.ref b] ∧ Bag F H b ∧ ∀ (p : Addr) (F' H' : Hp) (ts : List Tab), Bag F' H' b → Same F F' → TsOk ts → TbAt F' p ts → Q (.ref p) H'
abbrev s_l_tables : Stmt := topS 37
abbrev sc_l_tablesN : List Str := ["_law_bag_here", "_law_taken", "_law_tables_here", "_law_k", "_law_name_here", "_law_fields", "_law_j"]
abbrev ps_l_tables : List Str := ["_law_bag_here"]
theorem sc_l_tables : FnScope sc_l_tablesN ps_l_tables (defScope s_l_tables) := ⟨rfl, rfl, rfl, by decide +kernel, rfl, by decide +kernel, by decide +kernel⟩
theorem ok_l_tables {f : Addr} {fd : FuncData} (F : Fun K "_law_tables" "_law_tables" s_l_tables f fd) (T : Txt K mg CS) (D_l_pick : Df P w K mg base "_law_pick" 1 ps_l_pick spPick) (D_l_name : Df P w K mg base "_law_name" 2 ps_l_name spName) :
    FnOk P w K mg base CX0 3 f fd ps_l_tables spTables := by
  refine F.ok sc_l_tables (fun vs H Q E h => ?_) (fun cdv A outer s H vs Q E hr h => ?_)
  · obtain ⟨_, _, rfl, _⟩ := h
    rfl
  · obtain ⟨F0, b, rfl, B, k⟩ := h
    refine ⟨_, (pss_cons (ps_set (i := 1) sc_l_tables.nd rfl (Or.inl rfl) (pe_lst pa_nil))
  (pss_cons (ps_set (i := 2) sc_l_tables.nd rfl (Or.inl rfl) (pe_lst pa_nil))
  (pss_cons (ps_for PassesOwn.never rfl (pi_range1 (by rfl) T.n_range (pa_cons (pe_ix ix_list (pe_lst (pa_cons pe_int (pa_cons pe_int (pa_cons pe_int (pa_cons pe_int (pa_cons pe_int pa_nil)))))) (pe_d D_l_pick (hr.mono (by decide)) (pa_cons (pv 0) (pa_cons pe_int pa_nil))) (fun _ _ => rfl)) pa_nil)) (pg_name (i := 3) sc_l_tables.nd rfl (Or.inl rfl))
    (pss_cons (ps_set (i := 4) sc_l_tables.nd rfl (Or.inl rfl) (pe_d D_l_name (hr.mono (by decide)) (pa_cons (pv 0) (pa_cons (pv 1) pa_nil))))
    (pss_cons (ps_set (i := 5) sc_l_tables.nd rfl (Or.inl rfl) (pe_lst pa_nil))
    (pss_cons (ps_for PassesOwn.never rfl (pi_range1 (by rfl) T.n_range (pa_cons (pe_op op_add pe_int (pe_d D_l_pick (hr.mono (by decide)) (pa_cons (pv 0) (pa_cons pe_int pa_nil)))) pa_nil)) (pg_name (i := 6) sc_l_tables.nd rfl (Or.inl rfl))
      (pss_one (ps_expr (pe_d D_l_name (hr.mono (by decide)) (pa_cons (pv 0) (pa_cons (pv 5) pa_nil))))))
    (pss_one (ps_expr (pe_bm PySem.F.plainAttrs_list PySem.F.slot_list_append PySem.F.type_list_append mt_append (pv 2) (pa_cons (pe_tup (pa_cons (pv 4) (pa_cons (pe_callTy call_tuple_of (by rfl) T.n_tuple (by decide +kernel) (pa_cons (pv 5) pa_nil)) pa_nil))) pa_nil))))))))
  (pss_one (ps_ret (pv 2)))))), ?_⟩
    refine ⟨Nat.zero_le _, fun t ht => ⟨Nat.zero_le _, fun p hp => ?_⟩⟩
    have ntp : t ≠ p := ne_of_none upd_same hp
    have fp : F0 p = none := B.fh.free (by rw [upd_ne (Ne.symm ntp)] at hp; exact hp)
    have ft : F0 t = none := B.fh.free ht
    have B2 := (B.new (.lst []) ht).new (.lst []) hp
    refine ⟨(by show 5 ≤ sizeLine; decide), fun m hm => ⟨_, rfl, _, b, 5, rfl, by decide, by decide, B2.new _ hm, fun r H1 r0 r1 B3 => ?_⟩⟩
    obtain ⟨v, hv, hvm⟩ := at_mem (xs := ([2, 1, 2, 3, 5] : List Int).map V.int) r0 r1
    obtain ⟨z, hz, rfl⟩ := List.mem_map.mp hvm
    have z15 : 1 ≤ z ∧ z ≤ 5 := by
      have all : ∀ z ∈ ([2, 1, 2, 3, 5] : List Int), 1 ≤ z ∧ z ≤ 5 := by decide
      exact all z hz
    have B4 := bag_sub (F := upd (upd F0 t (.lst [])) p (.lst [])) (fun a o e => by rw [upd_ne (ne_of_none (B2.fh _ _ e) hm)]; exact e) B3
    refine ⟨m, _, _, _, rfl, rfl, .inl (.inl (B3.fh _ _ upd_same)), hv, z, rfl, by omega, by omega, ?_⟩
    refine for_range (lo := 0) (n := z.toNat) (fun i σ H' => ∃ (G : Hp) (ts : List Tab) (xs : List V) (v3 v4 v5 v6 : Option V), σ = [some (.ref b), some (.ref t), some (.ref p), v3, v4, v5, v6] ∧ Same F0 G ∧ G t = none ∧ G p = none ∧
      Bag (upd (upd G t (.lst ((ts.map (·.1)).map V.str))) p (.lst xs)) H' b ∧ TpAll G xs (ts.map (tabD false)) ∧ ts.length = i ∧ (∀ u ∈ ts, TOk u) ∧ (ts.map (·.1)).Nodup) ?_ ?_ ?_
    · exact ⟨F0, [], [], _, _, _, _, rfl, Same.refl _, ft, fp, B4, .nil, rfl, fun _ m => (by cases m), .nil⟩
    · rintro i σ H2 hi ⟨G, ts, xs, v3, v4, v5, v6, rfl, sG, gt, gp, B5, dx, len, ok, nd⟩
      have lx : xs.length = i := by rw [dx.len, List.length_map]; exact len
      -- the table's name
      refine ⟨_, rfl, _, rfl, _, b, t, ts.map (·.1), rfl, B5, by rw [upd_ne ntp, upd_same], by rw [List.length_map]; omega, fun n H3 gn nn B6 => ?_⟩
      rw [upd_comm (Ne.symm ntp), upd_upd] at B6
      -- its fields
      refine ⟨Nat.zero_le _, fun q hq => ?_⟩
      have B7 := B6.new (.lst []) hq
      have q0 := B6.fh.free hq
      have nqt : q ≠ t := fun e => by rw [e, upd_ne ntp, upd_same] at q0; cases q0
      have nqp : q ≠ p := fun e => by rw [e, upd_same] at q0; cases q0
      have gq : G q = none := by rw [upd_ne nqp, upd_ne nqt] at q0; exact q0
      refine ⟨_, rfl, _, b, 4, rfl, by decide, by decide, B7, fun r H4 r0 r1 B8 => ⟨_, _, rfl, rfl, _, rfl, by omega, by omega, ?_⟩⟩
      refine for_range (lo := 0) (n := (1 + r).toNat) (fun j σ H' => ∃ (fs : List Str) (v6 : Option V), σ = [some (.ref b), some (.ref t), some (.ref p), some (.int (0 + (i : Nat))), some (.str n), some (.ref q), v6] ∧ fs.length = j ∧ (∀ f ∈ fs, isNm f = true) ∧ fs.Nodup ∧
        Bag (upd (upd (upd G t (.lst ((ts.map (·.1) ++ [n]).map V.str))) p (.lst xs)) q (.lst (fs.map V.str))) H' b) ?_ ?_ ?_
      · exact ⟨[], _, rfl, rfl, fun _ m => (by cases m), .nil, B8⟩
      · rintro j σ H5 hj ⟨fs, v6, rfl, lf, gf, nf, B9⟩
        refine ⟨_, rfl, _, rfl, _, b, q, fs, rfl, B9, upd_same, by omega, fun f H6 gf2 nf2 B10 => ?_⟩
        rw [upd_upd] at B10
        refine ⟨fs ++ [f], _, rfl, by rw [List.length_append, lf]; rfl, fun g m => ?_, ?_, B10⟩
        · rcases List.mem_append.mp m with m | m
          · exact gf g m
          · rw [List.mem_singleton.mp m]
            exact gf2
        · exact nodup_snoc nf nf2
      · rintro σ H5 ⟨fs, v6, rfl, lf, gf, nf, B9⟩
        -- the table
        have hq5 := B9.fh _ _ upd_same
        have hp5 : H5 p = some (.lst xs) := B9.fh _ _ (by rw [upd_ne (Ne.symm nqp), upd_same])
        refine ⟨_, rfl, .inl ⟨rfl, _, .inl (.inl hp5)⟩, _, rfl, _, rfl, q, _, rfl, .inl ⟨.inl (.inl hq5), fun u hu => ⟨(by show 2 ≤ sizeLine; decide), fun e he => ?_⟩⟩⟩
        have B11 := (B9.new (.tup (fs.map V.str)) hu).new (.tup [.str n, .ref u]) he
        have u0 := B9.fh.free hu
        have nup : u ≠ p := fun z => by rw [z] at u0; rw [upd_ne (Ne.symm nqp), upd_same] at u0; cases u0
        have nut : u ≠ t := fun z => by rw [z] at u0; rw [upd_ne (Ne.symm nqt), upd_ne ntp, upd_same] at u0; cases u0
        have nuq : u ≠ q := fun z => by rw [z] at u0; rw [upd_same] at u0; cases u0
        have gu : G u = none := by rw [upd_ne nuq, upd_ne nup, upd_ne nut] at u0; exact u0
        have hu2 : (upd H5 u (.tup (fs.map V.str))) u = some (.tup (fs.map V.str)) := upd_same
        have neu : e ≠ u := fun z => by rw [z, hu2] at he; cases he
        have he5 : H5 e = none := by rw [upd_ne neu] at he; exact he
        have e0 := B9.fh.free he5
        have nep : e ≠ p := fun z => by rw [z] at e0; rw [upd_ne (Ne.symm nqp), upd_same] at e0; cases e0
        have net : e ≠ t := fun z => by rw [z] at e0; rw [upd_ne (Ne.symm nqt), upd_ne ntp, upd_same] at e0; cases e0
        have neq : e ≠ q := fun z => by rw [z] at e0; rw [upd_same] at e0; cases e0
        have ge : G e = none := by rw [upd_ne neq, upd_ne nep, upd_ne net] at e0; exact e0
        refine ⟨p, _, _, rfl, rfl, by rw [upd_ne (Ne.symm nep), upd_ne (Ne.symm nup)]; exact hp5, Nat.lt_of_le_of_lt (show xs.length ≤ 100 by omega) (by decide), ?_⟩
        have B12 := B11.put (.lst (xs ++ [.ref e])) (o := .lst xs) (l := p) (by rw [upd_ne (Ne.symm nep), upd_ne (Ne.symm nup), upd_ne (Ne.symm nqp), upd_same])
        rw [upd_comm nep, upd_comm nup, upd_comm nqp, upd_upd, upd_comm (a := p) (b := q) (Ne.symm nqp), upd_comm (a := p) (b := u) (Ne.symm nup), upd_comm (a := p) (b := e) (Ne.symm nep),
          upd_comm (a := t) (b := q) (Ne.symm nqt), upd_comm (a := t) (b := u) (Ne.symm nut), upd_comm (a := t) (b := e) (Ne.symm net)] at B12
        have sG2 : Same G (upd (upd (upd G q (.lst (fs.map V.str))) u (.tup (fs.map V.str))) e (.tup [.str n, .ref u])) := fun a o z => by
          rw [upd_ne (ne_of_none z ge), upd_ne (ne_of_none z gu), upd_ne (ne_of_none z gq)]
          exact z
        refine ⟨_, ts ++ [(n, fs)], xs ++ [.ref e], _, _, _, _, rfl, sG.trans sG2, upd_none (upd_none (upd_none gt (Ne.symm nqt)) (Ne.symm nut)) (Ne.symm net), upd_none (upd_none (upd_none gp (Ne.symm nqp)) (Ne.symm nup)) (Ne.symm nep), ?_, ?_, ?_, ?_, ?_⟩
        · rw [List.map_append]
          exact B12
        · rw [List.map_append]
          exact (dx.same sG2).snoc (.tup upd_same (.cons (.str n) (.cons (.tup (by rw [upd_ne (Ne.symm neu), upd_same]) (TpAll.strs fs)) .nil)))
        · rw [List.length_append, len]
          rfl
        · intro w hw
          rcases List.mem_append.mp hw with hw | hw
          · exact ok w hw
          · rw [List.mem_singleton.mp hw]
            exact ⟨gn, (show 1 ≤ fs.length by omega), (show fs.length ≤ 4 by omega), gf, nf⟩
        · rw [List.map_append]
          exact nodup_snoc nd nn
    · rintro σ H2 ⟨G, ts, xs, v3, v4, v5, v6, rfl, sG, gt, gp, B5, dx, len, ok, nd⟩
      refine ⟨_, rfl, ?_⟩
      refine k p _ H2 ts B5 (fun a o e => ?_) ⟨by omega, by omega, ok, nd⟩ ⟨xs, upd_same, dx.same (fun a o e => ?_)⟩
      · rw [upd_ne (ne_of_none e fp), upd_ne (ne_of_none e ft)]
        exact sG a o e
      · rw [upd_ne (ne_of_none e gp), upd_ne (ne_of_none e gt)]
        exact e
def spValue : Sp := fun vs H Q _ => ∃ (F : Hp) (b : Addr), vs = [.ref b] ∧ Bag F H b ∧ ∀ (z : Int) (H' : Hp), -1000000000 ≤ z → z ≤ 1000000000 → Bag F H' b → Q (.int z) H'
abbrev s_l_value : Stmt := topS 36
abbrev sc_l_valueN : List Str := ["_law_bag_here", "_law_number"]
abbrev ps_l_value : List Str := ["_law_bag_here"]
theorem sc_l_value : FnScope sc_l_valueN ps_l_value (defScope s_l_value) := ⟨rfl, rfl, rfl, by decide +kernel, rfl, by decide +kernel, by decide +kernel⟩
theorem ok_l_value {f : Addr} {fd : FuncData} (F : Fun K "_law_value" "_law_value" s_l_value f fd) (T : Txt K mg CS) (D_l_pick : Df P w K mg base "_law_pick" 1 ps_l_pick spPick) : FnOk P w K mg base CX0 2 f fd ps_l_value spValue := by
  refine F.ok sc_l_value (fun vs H Q E h => ?_) (fun cdv A outer s H vs Q E hr h => ?_)
  · obtain ⟨_, _, rfl, _⟩ := h
    rfl
  · obtain ⟨F0, b, rfl, B, k⟩ := h
    refine ⟨_, (pss_cons (ps_if (pt_cmpR op_eq (pe_d D_l_pick (hr.mono (by decide)) (pa_cons (pv 0) (pa_cons pe_int pa_nil))) pe_int (nomark _))
    (pss_cons (ps_set (i := 1) sc_l_value.nd rfl (Or.inl rfl) (pe_op op_mul (pe_d D_l_pick (hr.mono (by decide)) (pa_cons (pv 0) (pa_cons pe_int pa_nil))) pe_int))
    (pss_one (ps_ret (pe_op op_sub (pe_op op_modN (pe_callTy call_int1 (by rfl) T.n_int (by decide +kernel) (pa_cons (pe_op op_add (pv 1) (pe_d D_l_pick (hr.mono (by decide)) (pa_cons (pv 0) (pa_cons pe_int pa_nil)))) pa_nil)) (pe_op op_add (pe_op op_mul pe_int (pe_op op_pow pe_int pe_int)) pe_int)) (pe_op op_pow pe_int pe_int)))))
    pss_nil)
  (pss_one (ps_ret (pe_op op_sub (pe_d D_l_pick (hr.mono (by decide)) (pa_cons (pv 0) (pa_cons pe_int pa_nil))) pe_int)))), ?_⟩
    refine ⟨_, rfl, F0, b, 8, rfl, by decide, by decide, B, fun r0 H1 a0 a1 B1 => ⟨rfl, _, rfl, ifd (fun _ => ?_) fun _ => ?_⟩⟩
    · refine ⟨_, rfl, F0, b, 44722, rfl, by decide, by decide, B1, fun r1 H2 b0 b1 B2 => ⟨_, _, rfl, rfl, ?_⟩⟩
      have lo : ∀ m : Int, 0 ≤ m.fmod 2000000001 ∧ m.fmod 2000000001 < 2000000001 := fun m => ⟨fmod_lo (by decide), fmod_hi (by decide)⟩
      refine ⟨.inl ⟨by omega, by omega⟩, ?_⟩
      refine ⟨_, rfl, _, rfl, F0, b, 44722, rfl, by decide, by decide, B2, fun r2 H3 c0 c1 B3 => ⟨_, _, rfl, rfl, .inl ⟨_, rfl, ?_⟩⟩⟩
      refine ⟨_, _, rfl, rfl, ⟨by decide, by decide⟩, _, _, rfl, rfl, .inl ⟨by decide, by decide⟩, _, _, rfl, rfl, _, _, rfl, rfl, (by show (2 : Int) * 10 ^ (9 : Int).toNat + 1 ≠ 0; decide), _, _, rfl, rfl, ⟨by decide, by decide⟩, _, _, rfl, rfl, ?_⟩
      have z := lo (r1 * 44722 + r2)
      have e : ((2 : Int) * 10 ^ (9 : Int).toNat + 1) = 2000000001 := by decide
      show Q (V.int ((r1 * 44722 + r2).fmod (2 * 10 ^ (9 : Int).toNat + 1) - 10 ^ (9 : Int).toNat)) H3
      rw [e, show ((10 : Int) ^ (9 : Int).toNat) = 1000000000 by decide]
      exact k _ _ (by omega) (by omega) B3
    · refine ⟨_, rfl, F0, b, 5, rfl, by decide, by decide, B1, fun r1 H2 b0 b1 B2 => ⟨_, _, rfl, rfl, ?_⟩⟩
      exact k _ _ (by omega) (by omega) B2
def poolT : List Str := (["b", "a", "", "x y", "aa", "Z", "0", "u1", "c", "-1", "d", "unknown", "A b", "~", "z", "e", "12", "row"] : List Str) ++ (["group", " ", "f", "ab", "ba", "x", "y", "('a',)", "None", "k", "l"] : List Str)
def poolL (a s n : Nat) : List Str := (List.range n).map fun k => poolT.getD ((a + (1 + s) * k) % 29) ""
theorem poolT_nd : poolT.Nodup := by decide +kernel
theorem pool_step : ∀ s, s < 28 → ∀ d, d < 29 → ((1 + s) * d) % 29 = 0 → d = 0 := by decide +kernel
theorem poolL_nd {a s : Nat} (hs : s < 28) : (poolL a s 29).Nodup := by
  unfold poolL List.Nodup
  rw [List.pairwise_map]
  refine List.Pairwise.imp_of_mem ?_ (List.pairwise_lt_range (n := 29))
  intro k j mk mj hlt e
  have hj := List.mem_range.mp mj
  have l29 : poolT.length = 29 := rfl
  have lx : ∀ n, n % 29 < poolT.length := fun n => by rw [l29]; exact Nat.mod_lt _ (by decide)
  rw [List.getD_eq_getElem?_getD, List.getD_eq_getElem?_getD, List.getElem?_eq_getElem (lx _), List.getElem?_eq_getElem (lx _)] at e
  have e2 : poolT[(a + (1 + s) * k) % 29]'(lx _) = poolT[(a + (1 + s) * j) % 29]'(lx _) := e
  have e3 := (List.getElem_inj poolT_nd).mp e2
  have e4 := Nat.sub_mod_eq_zero_of_mod_eq e3.symm
  rw [show a + (1 + s) * j - (a + (1 + s) * k) = (1 + s) * (j - k) by rw [Nat.mul_sub]; omega] at e4
  have := pool_step s hs (j - k) (by omega) e4
  omega
theorem poolL_succ (a s i : Nat) : poolL a s (i + 1) = poolL a s i ++ [poolT.getD ((a + (1 + s) * i) % 29) ""] := by
  unfold poolL
  rw [List.range_succ, List.map_append]
  rfl
theorem poolL_len (a s i : Nat) : (poolL a s i).length = i := by unfold poolL; rw [List.length_map, List.length_range]
theorem pool_at (a s i : Nat) : atI (poolT.map V.str) (((a : Int) + (1 + (s : Int)) * (0 + (i : Nat))).fmod 29) = some (V.str (poolT.getD ((a + (1 + s) * i) % 29) "")) := by
  have e1 : ((a : Int) + (1 + (s : Int)) * (0 + (i : Nat))) = ((a + (1 + s) * i : Nat) : Int) := by
    rw [Int.zero_add, Int.natCast_add, Int.natCast_mul, Int.natCast_add]
    rfl
  have lx : (a + (1 + s) * i) % 29 < poolT.length := Nat.mod_lt _ (show 0 < 29 by decide)
  rw [e1, show (29 : Int) = ((29 : Nat) : Int) from rfl, Int.fmod_eq_emod_of_nonneg _ (by omega), ← Int.natCast_emod]
  refine atI_nat ?_
  rw [List.getElem?_map, List.getElem?_eq_getElem lx, List.getD_eq_getElem?_getD, List.getElem?_eq_getElem lx]
  rfl
def spPool : Sp := fun vs H Q _ => ∃ (F : Hp) (b : Addr), vs = [.ref b] ∧ Bag F H b ∧ ∀ (p : Addr) (tk : List Str) (F' H' : Hp), tk.length = 29 → tk.Nodup → Same F F' → Bag F' H' b → F' p = some (.lst (tk.map V.str)) → Q (.ref p) H'

abbrev s_l_pool : Stmt := topS 40
abbrev sc_l_poolN : List Str := ["_law_bag_here", "_law_texts", "_law_first", "_law_step", "_law_k"]
abbrev ps_l_pool : List Str := ["_law_bag_here"]
theorem sc_l_pool : FnScope sc_l_poolN ps_l_pool (defScope s_l_pool) := ⟨rfl, rfl, rfl, by decide +kernel, rfl, by decide +kernel, by decide +kernel⟩
theorem ok_l_pool {f : Addr} {fd : FuncData} (F : Fun K "_law_pool" "_law_pool" s_l_pool f fd) (T : Txt K mg CS) (D_l_pick : Df P w K mg base "_law_pick" 1 ps_l_pick spPick) : FnOk P w K mg base CX0 2 f fd ps_l_pool spPool := by
  refine F.ok sc_l_pool (fun vs H Q E h => ?_) (fun cdv A outer s H vs Q E hr h => ?_)
  · obtain ⟨_, _, rfl, _⟩ := h
    rfl
  · obtain ⟨F0, b, rfl, B, k⟩ := h
    refine ⟨_, (pss_cons (ps_set (i := 1) sc_l_pool.nd rfl (Or.inr rfl) (pe_lst (pa_cons pe_str (pa_cons pe_str (pa_cons pe_str (pa_cons pe_str (pa_cons pe_str (pa_cons pe_str (pa_cons pe_str (pa_cons pe_str (pa_cons pe_str (pa_cons pe_str (pa_cons pe_str (pa_cons pe_str (pa_cons pe_str (pa_cons pe_str (pa_cons pe_str (pa_cons pe_str (pa_cons pe_str (pa_cons pe_str pa_nil))))))))))))))))))))
  (pss_cons (ps_set (i := 1) sc_l_pool.nd rfl (Or.inr rfl) (pe_op op_cat (pv 1) (pe_lst (pa_cons pe_str (pa_cons pe_str (pa_cons pe_str (pa_cons pe_str (pa_cons pe_str (pa_cons pe_str (pa_cons pe_str (pa_cons pe_str (pa_cons pe_str (pa_cons pe_str (pa_cons pe_str pa_nil))))))))))))))
  (pss_cons (ps_set (i := 2) sc_l_pool.nd rfl (Or.inr rfl) (pe_d D_l_pick (hr.mono (by decide)) (pa_cons (pv 0) (pa_cons pe_int pa_nil))))
  (pss_cons (ps_set (i := 3) sc_l_pool.nd rfl (Or.inr rfl) (pe_op op_add pe_int (pe_d D_l_pick (hr.mono (by decide)) (pa_cons (pv 0) (pa_cons pe_int pa_nil)))))
  (pss_one (ps_ret (pe_lc (own := [("_law_k", 4)]) (g := gName 4) (tt := tYes) (by rfl) sc_l_pool.nd (pi_range1 (by rfl) T.n_range (pa_cons pe_int pa_nil)) (blkOk_by (own := [("_law_k", 4)]) (N := sc_l_poolN) (sc := defScope s_l_pool) (by decide +kernel)) (fun _ _ _ _ _ => pg_name (i := 4) sc_l_pool.nd rfl (Or.inl rfl)) (fun _ _ _ _ _ => pts_nil) (fun _ _ _ _ _ => (pe_ix (ixK_list (K := K)) (pv 1) (pe_op op_modN (pe_op op_add (pv 2) (pe_op op_mul (pv 3) (pv 4))) pe_int) (fun _ _ => rfl)))))))))), ?_⟩
    refine ⟨(by show 18 ≤ sizeLine; decide), fun a ha => ?_⟩
    have B1 := B.new (.lst ((["b", "a", "", "x y", "aa", "Z", "0", "u1", "c", "-1", "d", "unknown", "A b", "~", "z", "e", "12", "row"] : List Str).map V.str)) ha
    refine ⟨_, rfl, (by show 11 ≤ sizeLine; decide), fun c hc => ?_⟩
    have B2 := B1.new (.lst ((["group", " ", "f", "ab", "ba", "x", "y", "('a',)", "None", "k", "l"] : List Str).map V.str)) hc
    have ac : a ≠ c := ne_of_none upd_same hc
    refine ⟨a, c, (["b", "a", "", "x y", "aa", "Z", "0", "u1", "c", "-1", "d", "unknown", "A b", "~", "z", "e", "12", "row"] : List Str).map V.str, (["group", " ", "f", "ab", "ba", "x", "y", "('a',)", "None", "k", "l"] : List Str).map V.str, rfl, rfl, B2.fh _ _ (by rw [upd_ne ac, upd_same]), B2.fh _ _ upd_same, (by show 29 ≤ sizeLine; decide), fun d hd => ?_⟩
    have B3 := B2.new (.lst (((["b", "a", "", "x y", "aa", "Z", "0", "u1", "c", "-1", "d", "unknown", "A b", "~", "z", "e", "12", "row"] : List Str) ++ (["group", " ", "f", "ab", "ba", "x", "y", "('a',)", "None", "k", "l"] : List Str)).map V.str)) hd
    have d3 : (upd (upd (upd F0 a (.lst ((["b", "a", "", "x y", "aa", "Z", "0", "u1", "c", "-1", "d", "unknown", "A b", "~", "z", "e", "12", "row"] : List Str).map V.str))) c (.lst ((["group", " ", "f", "ab", "ba", "x", "y", "('a',)", "None", "k", "l"] : List Str).map V.str))) d (.lst (((["b", "a", "", "x y", "aa", "Z", "0", "u1", "c", "-1", "d", "unknown", "A b", "~", "z", "e", "12", "row"] : List Str) ++ (["group", " ", "f", "ab", "ba", "x", "y", "('a',)", "None", "k", "l"] : List Str)).map V.str))) d = some (.lst (((["b", "a", "", "x y", "aa", "Z", "0", "u1", "c", "-1", "d", "unknown", "A b", "~", "z", "e", "12", "row"] : List Str) ++ (["group", " ", "f", "ab", "ba", "x", "y", "('a',)", "None", "k", "l"] : List Str)).map V.str)) := upd_same
    have sF : Same F0 (upd (upd (upd F0 a (.lst ((["b", "a", "", "x y", "aa", "Z", "0", "u1", "c", "-1", "d", "unknown", "A b", "~", "z", "e", "12", "row"] : List Str).map V.str))) c (.lst ((["group", " ", "f", "ab", "ba", "x", "y", "('a',)", "None", "k", "l"] : List Str).map V.str))) d (.lst (((["b", "a", "", "x y", "aa", "Z", "0", "u1", "c", "-1", "d", "unknown", "A b", "~", "z", "e", "12", "row"] : List Str) ++ (["group", " ", "f", "ab", "ba", "x", "y", "('a',)", "None", "k", "l"] : List Str)).map V.str))) := ((same_new _ (B.fh.free ha)).trans (same_new _ (B1.fh.free hc))).trans (same_new _ (B2.fh.free hd))
    have lp : ((["b", "a", "", "x y", "aa", "Z", "0", "u1", "c", "-1", "d", "unknown", "A b", "~", "z", "e", "12", "row"] : List Str) ++ (["group", " ", "f", "ab", "ba", "x", "y", "('a',)", "None", "k", "l"] : List Str)).length = 29 := rfl
    generalize upd (upd (upd F0 a (.lst ((["b", "a", "", "x y", "aa", "Z", "0", "u1", "c", "-1", "d", "unknown", "A b", "~", "z", "e", "12", "row"] : List Str).map V.str))) c (.lst ((["group", " ", "f", "ab", "ba", "x", "y", "('a',)", "None", "k", "l"] : List Str).map V.str))) d (.lst (((["b", "a", "", "x y", "aa", "Z", "0", "u1", "c", "-1", "d", "unknown", "A b", "~", "z", "e", "12", "row"] : List Str) ++ (["group", " ", "f", "ab", "ba", "x", "y", "('a',)", "None", "k", "l"] : List Str)).map V.str)) = F3 at *
    refine ⟨_, rfl, F3, b, 29, rfl, by decide, by decide, B3, fun r1 H1 a0 a1 B4 => ?_⟩
    clear B1 B2 B3
    have epT : (["b", "a", "", "x y", "aa", "Z", "0", "u1", "c", "-1", "d", "unknown", "A b", "~", "z", "e", "12", "row"] : List Str) ++ (["group", " ", "f", "ab", "ba", "x", "y", "('a',)", "None", "k", "l"] : List Str) = poolT := rfl
    rw [epT] at d3 lp
    refine ⟨_, rfl, F3, b, 28, rfl, by decide, by decide, B4, fun r2 H2 b0 b1 B5 => ⟨_, _, rfl, rfl, ?_⟩⟩
    obtain ⟨a0N, rfl⟩ : ∃ n : Nat, r1 = (n : Int) := ⟨r1.toNat, by omega⟩
    obtain ⟨s0N, rfl⟩ : ∃ n : Nat, r2 = (n : Int) := ⟨r2.toNat, by omega⟩
    refine ⟨29, rfl, by omega, by omega, fun D hD => ?_⟩
    have fD : F3 D = none := B5.fh.free hD
    refine lc_it (walk_range (lo := 0) (n := 29)) (fun i H' => Bag (upd F3 D (.lst ((poolL a0N s0N i).map V.str))) H' b) (B5.new _ hD) (fun _ _ _ _ => trivial) ?_ ?_
    · rintro i x H3 H4 hi B6 ⟨rfl, rfl⟩
      have nDd : d ≠ D := ne_of_none d3 fD
      have hd4 := B6.fh _ _ (show (upd F3 D (.lst ((poolL a0N s0N i).map V.str))) d = _ by rw [upd_ne nDd]; exact d3)
      refine ⟨rfl, _, rfl, _, rfl, _, rfl, _, rfl, _, _, rfl, rfl, .inl ⟨by omega, by omega⟩, _, _, rfl, rfl, _, _, rfl, rfl, (by show (29 : Int) ≠ 0; decide), d, _, _, _, rfl, rfl, .inl (.inl hd4), pool_at a0N s0N i, ?_⟩
      have z := B6.put (.lst ((poolL a0N s0N (i + 1)).map V.str)) upd_same
      rw [upd_upd, poolL_succ, List.map_append] at z
      refine ⟨_, B6.fh _ _ upd_same, by rw [List.length_map, poolL_len]; exact Nat.lt_of_le_of_lt (show i ≤ 100 by omega) (by decide), ?_⟩
      rw [poolL_succ, List.map_append]
      exact z
    rintro H3 B6
    exact k D _ _ _ (poolL_len _ _ _) (poolL_nd (by omega)) (sF.trans (same_new _ fD)) B6 upd_same
end
end Fm

/-! ## K32XB -/
set_option Elab.async false
set_option maxRecDepth 100000
set_option maxHeartbeats 4000000
namespace Fm
open PySem L2
theorem unks_snoc (rs : List PRow) (r : PRow) : unks (rs ++ [r]) = addR (unks rs) r := by
  unfold unks
  rw [List.foldl_append]
  rfl
theorem isNm_9 {s : Str} (h : isNm s = true) : s.length ≤ 9 := by
  unfold isNm at h
  simp only [Bool.and_eq_true, decide_eq_true_eq] at h
  omega
def putP (pw : List (Str × Int)) (s : Str) (e : Int) : List (Str × Int) := if s ∈ pw.map (·.1) then pw.map (fun p => if p.1 = s then (p.1, e) else p) else pw ++ [(s, e)]
theorem pwK_put (pw : List (Str × Int)) (s : Str) (e : Int) : putK (pwK pw) (Sum.inr s) (V.int e) = pwK (putP pw s e) := by
  unfold putP putK
  by_cases m : s ∈ pw.map (·.1)
  · obtain ⟨p, mp, ep⟩ := List.mem_map.mp m
    rw [if_pos m, if_pos (List.any_eq_true.mpr ⟨((Sum.inr p.1 : Key), V.int p.2), (show _ ∈ pwK pw from List.mem_map.mpr ⟨p, mp, rfl⟩), decide_eq_true (show (Sum.inr p.1 : Key) = Sum.inr s by rw [ep])⟩)]
    unfold pwK
    rw [List.map_map, List.map_map]
    refine List.map_congr_left fun q _ => ?_
    show (if (Sum.inr q.1 : Key) = Sum.inr s then _ else _) = ((Sum.inr (if q.1 = s then (q.1, e) else q).1 : Key), V.int (if q.1 = s then (q.1, e) else q).2)
    by_cases c : q.1 = s
    · rw [if_pos c, if_pos (by rw [c])]
    · rw [if_neg c, if_neg (fun z => c (Sum.inr.inj z))]
  · rw [if_neg m, if_neg fun z => ?_]
    · unfold pwK
      rw [List.map_append]
      rfl
    · obtain ⟨kv, mkv, e2⟩ := List.any_eq_true.mp z
      obtain ⟨p, mp, rfl⟩ := List.mem_map.mp mkv
      exact m (List.mem_map.mpr ⟨p, mp, Sum.inr.inj (of_decide_eq_true e2)⟩)
theorem putP_keys {pw : List (Str × Int)} {s : Str} {e : Int} (m : s ∈ pw.map (·.1)) : (putP pw s e).map (·.1) = pw.map (·.1) := by
  unfold putP
  rw [if_pos m, List.map_map]
  refine List.map_congr_left fun q _ => ?_
  show (if q.1 = s then (q.1, e) else q).1 = q.1
  split <;> rfl
theorem PwOk.put {pw : List (Str × Int)} {us : List Str} {s : Str} {e : Int} {n : Nat} (h : PwOk pw us) (ms : s ∈ us) (h1 : 1 ≤ e) (h2 : e ≤ 100) (l : pw.length ≤ n) (n24 : n + 1 ≤ 24) : PwOk (putP pw s e) us ∧ (putP pw s e).length ≤ n + 1 := by
  by_cases m : s ∈ pw.map (·.1)
  · have ll : (putP pw s e).length = pw.length := by
      have z := congrArg List.length (putP_keys (e := e) m)
      rw [List.length_map, List.length_map] at z
      exact z
    refine ⟨⟨by rw [putP_keys m]; exact h.nd, fun p mp => ?_, by omega⟩, by omega⟩
    unfold putP at mp
    rw [if_pos m] at mp
    obtain ⟨q, mq, rfl⟩ := List.mem_map.mp mp
    have z := h.kn q mq
    by_cases c : q.1 = s
    · rw [if_pos c]
      exact ⟨z.1, h1, h2⟩
    · rw [if_neg c]
      exact z
  · have e0 : putP pw s e = pw ++ [(s, e)] := if_neg m
    rw [e0]
    refine ⟨⟨?_, fun p mp => ?_, by rw [List.length_append]; show pw.length + 1 ≤ 24; omega⟩, by rw [List.length_append]; show pw.length + 1 ≤ n + 1; omega⟩
    · rw [List.map_append]
      exact nodup_snoc h.nd m
    · rcases List.mem_append.mp mp with mp | mp
      · exact h.kn p mp
      · rw [List.mem_singleton] at mp
        rw [mp]
        exact ⟨ms, h1, h2⟩
/-- the rows of a drawn pattern -/
structure RsFit (ts : List Tab) (rs : List PRow) : Prop where
  tab : ∀ r ∈ rs, ∃ t ∈ ts, r.1 = t.1 ∧ r.2.length = t.2.length
  oks : ∀ r ∈ rs, ∀ k ∈ r.2, okSy k
theorem RsFit.prok {ts : List Tab} {rs : List PRow} (h : RsFit ts rs) (ok : TsOk ts) : ∀ r ∈ rs, PRok r := fun r m => by
  obtain ⟨t, mt, e1, e2⟩ := h.tab r m
  have z := ok.ok t mt
  exact ⟨by rw [e1]; exact z.nm, by have y := isNm_9 z.nm; rw [e1]; omega, by rw [e2]; exact z.fs.lo, by rw [e2]; exact z.fs.hi, h.oks r m⟩
section
variable {P : Program} {w : World} {K : PySem.W.Frag} {mg : Str → Option Value} {base : Heap} {CS CT CR CN CM : Addr}
def spPattern : Sp := fun vs H Q _ => ∃ (F : Hp) (b p : Addr) (ts : List Tab) (mo : Nat), vs = [.ref b, .ref p, .int mo] ∧ Bag F H b ∧ TbAt F p ts ∧ TsOk ts ∧ mo ≤ 6 ∧ ∀ (tp rp gp pp : Addr) (F' H' : Hp) (rs : List PRow) (gk : List Key) (pw : List (Str × Int)), Bag F' H' b → Same F F' → F' tp = some (.tup [.ref rp, .ref gp, .ref pp]) →
  Tp F' (.ref rp) (rowsD true rs) → Tp F' (.ref gp) (seqD true (gk.map kD)) → F' pp = some (.dK (pwK pw)) → rs.length ≤ mo → RsFit ts rs → gk.length ≤ 3 → (∀ k ∈ gk, okSy k) → Known (unks rs) gk → PwOk pw (unks rs) → Q (.ref tp) H'
abbrev s_l_pattern : Stmt := topS 41
abbrev sc_l_patternN : List Str := ["_law_bag_here", "_law_tables_here", "_law_most", "_law_pool_here", "_law_spread", "_law_rows", "_law_used", "_law_k", "_law_table", "_law_symbols", "_law_field", "_law_group", "_law_powers"]
abbrev ps_l_pattern : List Str := ["_law_bag_here", "_law_tables_here", "_law_most"]
theorem sc_l_pattern : FnScope sc_l_patternN ps_l_pattern (defScope s_l_pattern) := ⟨rfl, rfl, rfl, by decide +kernel, rfl, by decide +kernel, by decide +kernel⟩
theorem ok_l_pattern {f : Addr} {fd : FuncData} (F : Fun K "_law_pattern" "_law_pattern" s_l_pattern f fd) (T : Txt K mg CS) (D_l_pick : Df P w K mg base "_law_pick" 1 ps_l_pick spPick) (D_l_value : Df P w K mg base "_law_value" 2 ps_l_value spValue) (D_l_pool : Df P w K mg base "_law_pool" 2 ps_l_pool spPool) : FnOk P w K mg base CX0 3 f fd ps_l_pattern spPattern := by
  refine F.ok sc_l_pattern (fun vs H Q E h => ?_) (fun cdv A outer s H vs Q E hr h => ?_)
  · obtain ⟨_, _, _, _, _, rfl, _⟩ := h
    rfl
  · obtain ⟨F0, b, tb, ts, mo, rfl, B, ⟨txs, htb, ta⟩, ok, mo6, k⟩ := h
    refine ⟨_, (pss_cons (ps_set (i := 3) sc_l_pattern.nd rfl (Or.inl rfl) (pe_d D_l_pool (hr.mono (by decide)) (pa_cons (pv 0) pa_nil)))
  (pss_cons (ps_set (i := 4) sc_l_pattern.nd rfl (Or.inl rfl) (pe_ix ix_list (pe_lst (pa_cons pe_int (pa_cons pe_int (pa_cons pe_int (pa_cons pe_int (pa_cons pe_int (pa_cons pe_int pa_nil))))))) (pe_d D_l_pick (hr.mono (by decide)) (pa_cons (pv 0) (pa_cons pe_int pa_nil))) (fun _ _ => rfl)))
  (pss_cons (ps_set (i := 5) sc_l_pattern.nd rfl (Or.inl rfl) (pe_lst pa_nil))
  (pss_cons (ps_set (i := 6) sc_l_pattern.nd rfl (Or.inl rfl) (pe_lst pa_nil))
  (pss_cons (ps_for PassesOwn.never rfl (pi_range1 (by rfl) T.n_range (pa_cons (pe_d D_l_pick (hr.mono (by decide)) (pa_cons (pv 0) (pa_cons (pe_op op_add (pv 2) pe_int) pa_nil))) pa_nil)) (pg_name (i := 7) sc_l_pattern.nd rfl (Or.inl rfl))
    (pss_cons (ps_set (i := 8) sc_l_pattern.nd rfl (Or.inl rfl) (pe_ix ix_list (pv 1) (pe_d D_l_pick (hr.mono (by decide)) (pa_cons (pv 0) (pa_cons (pe_callB call_len_seq (by rfl) T.n_len (by decide +kernel) (pa_cons (pv 1) pa_nil)) pa_nil))) (fun _ _ => rfl)))
    (pss_cons (ps_set (i := 9) sc_l_pattern.nd rfl (Or.inl rfl) (pe_lst pa_nil))
    (pss_cons (ps_for PassesOwn.never rfl (pi_tup (pe_ix ix_tup (pv 8) pe_int (fun _ _ => rfl))) (pg_name (i := 10) sc_l_pattern.nd rfl (Or.inl rfl))
      (pss_one (ps_if (pt_cmpR op_eq (pe_d D_l_pick (hr.mono (by decide)) (pa_cons (pv 0) (pa_cons pe_int pa_nil))) pe_int (nomark _))
        (pss_one (ps_expr (pe_bm PySem.F.plainAttrs_list PySem.F.slot_list_append PySem.F.type_list_append mt_append (pv 9) (pa_cons (pe_d D_l_value (hr.mono (by decide)) (pa_cons (pv 0) pa_nil)) pa_nil))))
        (pss_cons (ps_expr (pe_bm PySem.F.plainAttrs_list PySem.F.slot_list_append PySem.F.type_list_append mt_append (pv 9) (pa_cons (pe_ix ix_list (pv 3) (pe_d D_l_pick (hr.mono (by decide)) (pa_cons (pv 0) (pa_cons (pv 4) pa_nil))) (fun _ _ => rfl)) pa_nil)))
        (pss_one (ps_expr (pe_bm PySem.F.plainAttrs_list PySem.F.slot_list_append PySem.F.type_list_append mt_append (pv 6) (pa_cons (pe_ix ix_list (pv 9) (pe_un un_neg pe_int) (fun _ _ => rfl)) pa_nil))))))))
    (pss_one (ps_expr (pe_bm PySem.F.plainAttrs_list PySem.F.slot_list_append PySem.F.type_list_append mt_append (pv 5) (pa_cons (pe_tup (pa_cons (pe_ix ix_tup (pv 8) pe_int (fun _ _ => rfl)) (pa_cons (pv 9) pa_nil))) pa_nil))))))))
  (pss_cons (ps_set (i := 11) sc_l_pattern.nd rfl (Or.inl rfl) (pe_lst pa_nil))
  (pss_cons (ps_for PassesOwn.never rfl (pi_range1 (by rfl) T.n_range (pa_cons (pe_d D_l_pick (hr.mono (by decide)) (pa_cons (pv 0) (pa_cons pe_int pa_nil))) pa_nil)) (pg_name (i := 7) sc_l_pattern.nd rfl (Or.inl rfl))
    (pss_one (ps_if (PW.pt (pw_or (pt_cmpR op_eq (pe_callB call_len_seq (by rfl) T.n_len (by decide +kernel) (pa_cons (pv 6) pa_nil)) pe_int (nomark _)) (pw_or1 (pt_cmpR op_eq (pe_d D_l_pick (hr.mono (by decide)) (pa_cons (pv 0) (pa_cons pe_int pa_nil))) pe_int (nomark _)))))
      (pss_one (ps_expr (pe_bm PySem.F.plainAttrs_list PySem.F.slot_list_append PySem.F.type_list_append mt_append (pv 11) (pa_cons (pe_d D_l_value (hr.mono (by decide)) (pa_cons (pv 0) pa_nil)) pa_nil))))
      (pss_one (ps_expr (pe_bm PySem.F.plainAttrs_list PySem.F.slot_list_append PySem.F.type_list_append mt_append (pv 11) (pa_cons (pe_ix ix_list (pv 6) (pe_d D_l_pick (hr.mono (by decide)) (pa_cons (pv 0) (pa_cons (pe_callB call_len_seq (by rfl) T.n_len (by decide +kernel) (pa_cons (pv 6) pa_nil)) pa_nil))) (fun _ _ => rfl)) pa_nil)))))))
  (pss_cons (ps_set (i := 12) sc_l_pattern.nd rfl (Or.inl rfl) pe_dnewK)
  (Evl.pss_cut (ps_if (pt_cmpR op_gt (pe_callB call_len_seq (by rfl) T.n_len (by decide +kernel) (pa_cons (pv 6) pa_nil)) pe_int (nomark _))
    (pss_one (ps_for PassesOwn.never rfl (pi_range1 (by rfl) T.n_range (pa_cons (pe_d D_l_pick (hr.mono (by decide)) (pa_cons (pv 0) (pa_cons pe_int pa_nil))) pa_nil)) (pg_name (i := 7) sc_l_pattern.nd rfl (Or.inl rfl))
      (pss_one (ps_asg (pe_ix ix_list (pe_lst (pa_cons pe_int (pa_cons pe_int (pa_cons pe_int (pa_cons pe_int (pa_cons pe_int pa_nil)))))) (pe_d D_l_pick (hr.mono (by decide)) (pa_cons (pv 0) (pa_cons pe_int pa_nil))) (fun _ _ => rfl)) (pg_sub (pv 12) (pe_ix ix_list (pv 6) (pe_d D_l_pick (hr.mono (by decide)) (pa_cons (pv 0) (pa_cons (pe_callB call_len_seq (by rfl) T.n_len (by decide +kernel) (pa_cons (pv 6) pa_nil)) pa_nil))) (fun _ _ => rfl)) (set_dict (Nat.lt_of_le_of_lt (Nat.add_le_add_left (by decide) _) hr.units)))))))
    pss_nil)
  (pss_one (ps_ret (pe_tup (pa_cons (pv 5) (pa_cons (pv 11) (pa_cons (pv 12) pa_nil))))))))))))))), ?_⟩
    have ltx : txs.length = ts.length := by rw [ta.len, List.length_map]
    have lo := ok.lo
    have hi5 := ok.hi
    refine ⟨_, rfl, F0, b, rfl, B, fun po tk F1 H1 ltk _ s1 B1 hpo => ?_⟩
    refine ⟨(by show 6 ≤ sizeLine; decide), fun m hm => ⟨_, rfl, _, b, 6, rfl, by decide, by decide, B1.new _ hm, fun r0 H2 a0 a1 B2 => ?_⟩⟩
    obtain ⟨v, hv, hvm⟩ := at_mem (xs := ([1, 2, 3, 4, 6, 24] : List Int).map V.int) a0 a1
    obtain ⟨sp, hsp, rfl⟩ := List.mem_map.mp hvm
    have sp24 : 1 ≤ sp ∧ sp ≤ 24 := by
      have all : ∀ z ∈ ([1, 2, 3, 4, 6, 24] : List Int), 1 ≤ z ∧ z ≤ 24 := by decide
      exact all sp hsp
    have B3 := bag_sub (F := F1) (fun a o e => by rw [upd_ne (ne_of_none (B1.fh _ _ e) hm)]; exact e) B2
    refine ⟨m, _, _, _, rfl, rfl, .inl (.inl (B2.fh _ _ upd_same)), hv, ?_⟩
    clear hv hvm hsp
    refine ⟨(by show 0 ≤ sizeLine; decide), fun rp hrp => ⟨(by show 0 ≤ sizeLine; decide), fun up hup => ?_⟩⟩
    have f0 : Fl F1 F1 H2 b := ⟨Same.refl _, B3⟩
    have g1rp := (f0.free hrp).2
    have f1 := f0.alloc (.lst []) hrp
    have g1up := (f1.free hup).2
    have nru : rp ≠ up := ne_of_none upd_same hup
    have f2 := f1.alloc (.lst []) hup
    have rpF : (upd (upd F1 rp (.lst [])) up (.lst [])) rp = some (.lst []) := by rw [upd_ne nru, upd_same]
    have upF : (upd (upd F1 rp (.lst [])) up (.lst [])) up = some (.lst []) := upd_same
    clear f0 f1 B2 B3
    generalize upd (upd F1 rp (.lst [])) up (.lst []) = F2 at *
    generalize upd (upd H2 rp (.lst [])) up (.lst []) = H3 at *
    refine ⟨_, rfl, _, rfl, _, _, rfl, rfl, F2, b, (mo : Int) + 1, rfl, by omega, by omega, f2.bag, fun r1 H4 b0 b1 B4 => ⟨_, rfl, by omega, by omega, ?_⟩⟩
    refine for_range (lo := 0) (n := r1.toNat) (fun i σ H' => ∃ (G F' : Hp) (rs : List PRow) (us : List Str) (xs : List V) (v7 v8 v9 v10 : Option V), σ = [some (.ref b), some (.ref tb), some (.int mo), some (.ref po), some (.int sp), some (.ref rp), some (.ref up), v7, v8, v9, v10, none, none] ∧ Fl G F' H' b ∧ Same F1 G ∧ G rp = none ∧ G up = none ∧ F' rp = some (.lst xs) ∧ TpAll G xs (rs.map (prowD true)) ∧ F' up = some (.lst (us.map V.str)) ∧ rs.length = i ∧ RsFit ts rs ∧ (∀ s ∈ us, s ∈ unks rs) ∧ us.length ≤ 4 * i)
      ⟨F1, F2, [], [], [], _, _, _, _, rfl, f2.on B4, Same.refl _, g1rp, g1up, rpF, .nil, upF, rfl, ⟨(fun _ z => by cases z), fun _ z => by cases z⟩, (fun _ z => by cases z), Nat.le_refl _⟩ ?_ ?_
    · rintro i σ H5 hi ⟨G, F3, rs, us, xs, v7, v8, v9, v10, rfl, f, sG, grp, gup, rpF, tR, upF, lR, fit, kn, lus⟩
      have lxs : xs.length = i := by rw [tR.len, List.length_map, lR]
      have htbG := sG _ _ (s1 _ _ htb)
      refine ⟨_, rfl, _, rfl, _, rfl, tb, txs, rfl, .inl (.inl (.inl (f.in htbG))), F3, b, (txs.length : Int), rfl, by omega, by omega, f.bag, fun r2 H6 c0 c1 B6 => ?_⟩
      obtain ⟨i2, rfl⟩ : ∃ i2 : Nat, r2 = (i2 : Int) := ⟨r2.toNat, by omega⟩
      have hi2 : txs[i2]? = some (txs[i2]'(by omega)) := List.getElem?_eq_getElem _
      obtain ⟨c0', hc0', hxc⟩ := ta.at hi2
      rw [List.getElem?_map] at hc0'
      obtain ⟨t, ht, rfl⟩ := Option.map_eq_some_iff.mp hc0'
      have mt := List.mem_of_getElem? ht
      have tok := ok.ok t mt
      obtain ⟨p1, c, ex, hp1, hc⟩ := tab_in hxc
      rw [ex] at hi2
      have f6 := f.on B6
      refine ⟨tb, txs, _, _, rfl, rfl, .inl (.inl (f6.in htbG)), atI_nat hi2, ?_⟩
      refine ⟨(by show 0 ≤ sizeLine; decide), fun q hq => ?_⟩
      have gq := (f6.free hq).2
      have nqr : rp ≠ q := ne_of_none rpF (f6.free hq).1
      have nqu : up ≠ q := ne_of_none upF (f6.free hq).1
      have f7 := f6.alloc (.lst []) hq
      have hp1G := sG _ _ (s1 _ _ hp1)
      have hcG := sG _ _ (s1 _ _ hc)
      have lf := tok.fs.hi
      refine ⟨_, rfl, p1, _, 1, _, rfl, rfl, .inl (.inl (f7.in hp1G)), rfl, c, rfl, ⟨_, .inl (.inl (f7.in hcG))⟩, ?_⟩
      refine for_it (walk_tup (xs := t.2.map V.str)) (fun j σ H' => ∃ (F' : Hp) (ks : List Key) (us2 : List Str) (v10 : Option V), σ = [some (.ref b), some (.ref tb), some (.int mo), some (.ref po), some (.int sp), some (.ref rp), some (.ref up), some (.int (0 + (i : Nat))), some (.ref p1), some (.ref q), v10, none, none] ∧ Fl G F' H' b ∧ F' rp = some (.lst xs) ∧ F' up = some (.lst (us2.map V.str)) ∧ F' q = some (.lst (ks.map kV)) ∧ ks.length = j ∧ (∀ k ∈ ks, okSy k) ∧ (∀ s ∈ us2, s ∈ unks rs ∨ (Sum.inr s : Key) ∈ ks) ∧ us2.length ≤ 4 * i + j)
        ⟨_, [], us, _, rfl, f7, by rw [upd_ne nqr]; exact rpF, by rw [upd_ne nqu]; exact upF, upd_same, rfl, (fun _ z => by cases z), fun s ms => .inl (kn s ms), lus⟩ (fun j σ H' _ z => by obtain ⟨F', _, _, _, _, f', _⟩ := z; exact .inl (.inl (f'.in hcG))) ?_ ?_
      · rintro j x σ H8 H9 hj ⟨F5, ks, us2, v10, rfl, f8, rpF5, upF5, qF5, lks, oks, kn2, lus2⟩ ⟨rfl, hx⟩
        rw [List.length_map] at hj
        refine ⟨_, rfl, F5, b, 6, rfl, by decide, by decide, f8.bag, fun r3 H10 d0 d1 B10 => ⟨rfl, _, rfl, ifd (fun _ => ?_) fun _ => ?_⟩⟩
        · refine ⟨_, rfl, .inl ⟨rfl, _, .inl (.inl ((f8.on B10).at qF5))⟩, _, rfl, F5, b, rfl, B10, fun z H11 z1 z2 B11 => ?_⟩
          have f11 := f8.on B11
          refine ⟨q, _, _, rfl, rfl, f11.at qF5, by rw [List.length_map]; exact Nat.lt_of_le_of_lt (show ks.length ≤ 100 by omega) (by decide), ?_⟩
          refine ⟨_, ks ++ [.inl z], us2, _, rfl, f11.put _ gq qF5, by rw [upd_ne nqr]; exact rpF5, by rw [upd_ne nqu]; exact upF5, by rw [upd_same, List.map_append]; rfl, by rw [List.length_append, lks]; rfl, fun k mk => ?_, fun s ms => (kn2 s ms).imp id fun y => List.mem_append_left _ y, by omega⟩
          rcases List.mem_append.mp mk with mk | mk
          · exact oks k mk
          · rw [List.mem_singleton.mp mk]
            exact ⟨z1, z2⟩
        · refine ⟨_, rfl, .inl ⟨rfl, _, .inl (.inl ((f8.on B10).at qF5))⟩, _, rfl, _, rfl, _, rfl, F5, b, sp, rfl, by omega, by omega, B10, fun r4 H11 e0 e1 B11 => ?_⟩
          have f11 := f8.on B11
          have hpoG := sG _ _ hpo
          obtain ⟨v, hv, hvm⟩ := at_mem (xs := tk.map V.str) e0 (by rw [List.length_map, ltk]; omega)
          obtain ⟨s, hs, rfl⟩ := List.mem_map.mp hvm
          refine ⟨po, _, _, _, rfl, rfl, .inl (.inl (f11.in hpoG)), hv, q, _, _, rfl, rfl, f11.at qF5, by rw [List.length_map]; exact Nat.lt_of_le_of_lt (show ks.length ≤ 100 by omega) (by decide), ?_⟩
          have f12 := f11.put (.lst (ks.map kV ++ [V.str s])) gq qF5
          have q12 : (upd F5 q (.lst (ks.map kV ++ [V.str s]))) q = some (.lst (ks.map kV ++ [V.str s])) := upd_same
          have up12 : (upd F5 q (.lst (ks.map kV ++ [V.str s]))) up = some (.lst (us2.map V.str)) := by rw [upd_ne nqu]; exact upF5
          have rp12 : (upd F5 q (.lst (ks.map kV ++ [V.str s]))) rp = some (.lst xs) := by rw [upd_ne nqr]; exact rpF5
          generalize upd F5 q (.lst (ks.map kV ++ [V.str s])) = F6 at *
          generalize upd H11 q (.lst (ks.map kV ++ [V.str s])) = H12 at *
          refine ⟨_, rfl, .inl ⟨rfl, _, .inl (.inl (f12.at up12))⟩, _, rfl, _, rfl, q, _, _, _, rfl, rfl, .inl (.inl (f12.at q12)), atI_last _ _, up, _, _, rfl, rfl, f12.at up12, by rw [List.length_map]; exact Nat.lt_of_le_of_lt (show us2.length ≤ 100 by omega) (by decide), ?_⟩
          refine ⟨_, ks ++ [.inr s], us2 ++ [s], _, rfl, f12.put _ gup up12, by rw [upd_ne nru]; exact rp12, by rw [upd_same, List.map_append]; rfl, by rw [upd_ne (Ne.symm nqu), List.map_append]; exact q12, by rw [List.length_append, lks]; rfl, fun k mk => ?_, fun u mu => ?_, by rw [List.length_append]; show us2.length + 1 ≤ _; omega⟩
          · rcases List.mem_append.mp mk with mk | mk
            · exact oks k mk
            · rw [List.mem_singleton.mp mk]
              trivial
          · rcases List.mem_append.mp mu with mu | mu
            · exact (kn2 u mu).imp id fun y => List.mem_append_left _ y
            · rw [List.mem_singleton.mp mu]
              exact .inr (List.mem_append_right _ List.mem_cons_self)
      · rintro σ H8 ⟨F5, ks, us2, v10, rfl, f8, rpF5, upF5, qF5, lks, oks, kn2, lus2⟩
        rw [List.length_map] at lks lus2
        refine ⟨_, rfl, .inl ⟨rfl, _, .inl (.inl (f8.at rpF5))⟩, _, rfl, p1, _, 0, _, rfl, rfl, .inl (.inl (f8.in hp1G)), rfl, _, rfl, (by show 2 ≤ sizeLine; decide), fun tp htp => ?_⟩
        have f9 := (f8.keep qF5).new (.tup [.str t.1, .ref q]) htp
        have ntr : rp ≠ tp := ne_of_none rpF5 (f8.free htp).1
        have ntu : up ≠ tp := ne_of_none upF5 (f8.free htp).1
        have ntq : q ≠ tp := ne_of_none qF5 (f8.free htp).1
        have rp9 : (upd F5 tp (.tup [.str t.1, .ref q])) rp = some (.lst xs) := by rw [upd_ne ntr]; exact rpF5
        have gr9 : (upd (upd G q (.lst (ks.map kV))) tp (.tup [.str t.1, .ref q])) rp = none := by rw [upd_ne ntr, upd_ne nqr]; exact grp
        have gu9 : (upd (upd G q (.lst (ks.map kV))) tp (.tup [.str t.1, .ref q])) up = none := by rw [upd_ne ntu, upd_ne nqu]; exact gup
        have sG9 : Same G (upd (upd G q (.lst (ks.map kV))) tp (.tup [.str t.1, .ref q])) := (same_new _ gq).trans (same_new _ (by rw [upd_ne (Ne.symm ntq)]; exact (f8.free htp).2))
        have tq9 : Tp (upd (upd G q (.lst (ks.map kV))) tp (.tup [.str t.1, .ref q])) (.ref tp) (prowD true (t.1, ks)) := .tup upd_same (.cons (.str _) (.cons (.lst (by rw [upd_ne ntq, upd_same]) (keys_tp _)) .nil))
        have up9 : (upd F5 tp (.tup [.str t.1, .ref q])) up = some (.lst (us2.map V.str)) := by rw [upd_ne ntu]; exact upF5
        refine ⟨rp, _, _, rfl, rfl, f9.at rp9, by rw [lxs]; exact Nat.lt_of_le_of_lt (show i ≤ 100 by omega) (by decide), ?_⟩
        refine ⟨_, _, rs ++ [(t.1, ks)], us2, _, _, _, _, _, rfl, f9.put _ gr9 rp9, sG.trans sG9, gr9, gu9, upd_same, ?_, by rw [upd_ne (Ne.symm nru)]; exact up9, by rw [List.length_append, lR]; rfl, ⟨fun r mr => ?_, fun r mr => ?_⟩, fun s ms => ?_, by omega⟩
        · rw [List.map_append]
          exact (tR.same sG9).snoc tq9
        · rcases List.mem_append.mp mr with mr | mr
          · exact fit.tab r mr
          · rw [List.mem_singleton.mp mr]
            exact ⟨t, mt, rfl, lks⟩
        · rcases List.mem_append.mp mr with mr | mr
          · exact fit.oks r mr
          · rw [List.mem_singleton.mp mr]
            exact oks
        · rw [unks_mem]
          rcases kn2 s ms with y | y
          · obtain ⟨r, mr, hs⟩ := unks_mem.mp y
            exact ⟨r, List.mem_append_left _ mr, hs⟩
          · exact ⟨(t.1, ks), List.mem_append_right _ List.mem_cons_self, y⟩
    rintro σ H5 ⟨G, F3, rs, us, xs, v7, v8, v9, v10, rfl, f, sG, grp, gup, rpF, tR, upF, lR, fit, kn, lus⟩
    have lmo : rs.length ≤ mo := by omega
    have lus24 : us.length ≤ 24 := by omega
    -- the group
    refine ⟨(by show 0 ≤ sizeLine; decide), fun gp hgp => ?_⟩
    have ggp := (f.free hgp).2
    have ngr : rp ≠ gp := ne_of_none rpF (f.free hgp).1
    have ngu : up ≠ gp := ne_of_none upF (f.free hgp).1
    have f4 := f.alloc (.lst []) hgp
    have rp4 : (upd F3 gp (.lst [])) rp = some (.lst xs) := by rw [upd_ne ngr]; exact rpF
    have up4 : (upd F3 gp (.lst [])) up = some (.lst (us.map V.str)) := by rw [upd_ne ngu]; exact upF
    have gp4 : (upd F3 gp (.lst [])) gp = some (.lst []) := upd_same
    clear rpF upF
    generalize upd F3 gp (.lst []) = F4 at *
    generalize upd H5 gp (.lst []) = H6 at *
    refine ⟨_, rfl, F4, b, 4, rfl, by decide, by decide, f4.bag, fun r1 H7 b0 b1 B7 => ⟨_, rfl, by omega, by omega, ?_⟩⟩
    refine for_range (lo := 0) (n := r1.toNat) (fun i σ H' => ∃ (F' : Hp) (gk : List Key) (v7 : Option V), σ = [some (.ref b), some (.ref tb), some (.int mo), some (.ref po), some (.int sp), some (.ref rp), some (.ref up), v7, v8, v9, v10, some (.ref gp), none] ∧ Fl G F' H' b ∧ F' rp = some (.lst xs) ∧ F' up = some (.lst (us.map V.str)) ∧ F' gp = some (.lst (gk.map kV)) ∧ gk.length = i ∧ (∀ k ∈ gk, okSy k) ∧ ∀ s, (Sum.inr s : Key) ∈ gk → s ∈ us)
      ⟨F4, [], _, rfl, f4.on B7, rp4, up4, gp4, rfl, (fun _ z => by cases z), fun _ z => by cases z⟩ ?_ ?_
    · rintro i σ H8 hi ⟨F5, gk, v7, rfl, f5, rp5, up5, gp5, lg, ogk, kgk⟩
      have i3 : i ≤ 3 := by omega
      have valc : ∀ H9, Bag F5 H9 b → ∀ (z : Int) H10, -1000000000 ≤ z → z ≤ 1000000000 → Bag F5 H10 b → H10 gp = some (.lst (gk.map kV)) ∧ (gk.map kV).length < sizeLine ∧ ∃ (F' : Hp) (gk' : List Key) (v7' : Option V), [some (V.ref b), some (.ref tb), some (.int mo), some (.ref po), some (.int sp), some (.ref rp), some (.ref up), some (.int (0 + (i : Nat))), v8, v9, v10, some (.ref gp), none] = [some (.ref b), some (.ref tb), some (.int mo), some (.ref po), some (.int sp), some (.ref rp), some (.ref up), v7', v8, v9, v10, some (.ref gp), none] ∧ Fl G F' (upd H10 gp (.lst (gk.map kV ++ [V.int z]))) b ∧ F' rp = some (.lst xs) ∧ F' up = some (.lst (us.map V.str)) ∧ F' gp = some (.lst (gk'.map kV)) ∧ gk'.length = i + 1 ∧ (∀ k ∈ gk', okSy k) ∧ ∀ s, (Sum.inr s : Key) ∈ gk' → s ∈ us := fun H9 _ z H10 z1 z2 B10 => by
        refine ⟨B10.fh _ _ gp5, by rw [List.length_map]; exact Nat.lt_of_le_of_lt (show gk.length ≤ 100 by omega) (by decide), _, gk ++ [.inl z], _, rfl, (f5.on B10).put _ ggp gp5, by rw [upd_ne ngr]; exact rp5, by rw [upd_ne ngu]; exact up5, by rw [upd_same, List.map_append]; rfl, by rw [List.length_append, lg]; rfl, fun k mk => ?_, fun s ms => ?_⟩
        · rcases List.mem_append.mp mk with mk | mk
          · exact ogk k mk
          · rw [List.mem_singleton.mp mk]
            exact ⟨z1, z2⟩
        · rcases List.mem_append.mp ms with ms | ms
          · exact kgk s ms
          · rw [List.mem_singleton] at ms
            cases ms
      refine ⟨_, rfl, up, _, rfl, .inl (.inl (.inl (f5.at up5))), rfl, _, rfl, ifd (fun _ => iteT ?_) fun nz => ?_⟩
      · refine ⟨_, rfl, .inl ⟨rfl, _, .inl (.inl (f5.at gp5))⟩, _, rfl, F5, b, rfl, f5.bag, fun z H10 z1 z2 B10 => ?_⟩
        obtain ⟨q1, q2, q3⟩ := valc _ f5.bag z H10 z1 z2 B10
        exact ⟨gp, _, _, rfl, rfl, q1, q2, q3⟩
      · refine ⟨_, rfl, F5, b, 6, rfl, by decide, by decide, f5.bag, fun r3 H9 d0 d1 B9 => ⟨rfl, _, rfl, ifd (fun _ => ?_) fun _ => ?_⟩⟩
        · refine ⟨_, rfl, .inl ⟨rfl, _, .inl (.inl (B9.fh _ _ gp5))⟩, _, rfl, F5, b, rfl, B9, fun z H10 z1 z2 B10 => ?_⟩
          obtain ⟨q1, q2, q3⟩ := valc _ B9 z H10 z1 z2 B10
          exact ⟨gp, _, _, rfl, rfl, q1, q2, q3⟩
        · have lu : 1 ≤ us.length := by
            rcases Nat.eq_zero_or_pos us.length with z | z
            · exact absurd (by rw [List.length_map, z]; rfl) nz
            · exact z
          refine ⟨_, rfl, .inl ⟨rfl, _, .inl (.inl (B9.fh _ _ gp5))⟩, _, rfl, _, rfl, _, rfl, up, _, rfl, .inl (.inl (.inl (B9.fh _ _ up5))), F5, b, ((us.map V.str).length : Int), rfl, by rw [List.length_map]; omega, by rw [List.length_map]; omega, B9, fun r4 H10 e0 e1 B10 => ?_⟩
          obtain ⟨v, hv, hvm⟩ := at_mem (xs := us.map V.str) e0 e1
          obtain ⟨s, hs, rfl⟩ := List.mem_map.mp hvm
          refine ⟨up, _, _, _, rfl, rfl, .inl (.inl (B10.fh _ _ up5)), hv, gp, _, _, rfl, rfl, B10.fh _ _ gp5, by rw [List.length_map]; exact Nat.lt_of_le_of_lt (show gk.length ≤ 100 by omega) (by decide), ?_⟩
          refine ⟨_, gk ++ [.inr s], _, rfl, (f5.on B10).put _ ggp gp5, by rw [upd_ne ngr]; exact rp5, by rw [upd_ne ngu]; exact up5, by rw [upd_same, List.map_append]; rfl, by rw [List.length_append, lg]; rfl, fun k mk => ?_, fun u mu => ?_⟩
          · rcases List.mem_append.mp mk with mk | mk
            · exact ogk k mk
            · rw [List.mem_singleton.mp mk]
              trivial
          · rcases List.mem_append.mp mu with mu | mu
            · exact kgk u mu
            · rw [List.mem_singleton] at mu
              rw [Sum.inr.inj mu]
              exact hs
    rintro σ H8 ⟨F5, gk, v7, rfl, f5, rp5, up5, gp5, lg, ogk, kgk⟩
    have lg3 : gk.length ≤ 3 := by omega
    -- the powers
    refine fun pp hpp => ?_
    have gpp := (f5.free hpp).2
    have npr : rp ≠ pp := ne_of_none rp5 (f5.free hpp).1
    have npu : up ≠ pp := ne_of_none up5 (f5.free hpp).1
    have npg : gp ≠ pp := ne_of_none gp5 (f5.free hpp).1
    have f6 := f5.alloc (.dK []) hpp
    have rp6 : (upd F5 pp (.dK [])) rp = some (.lst xs) := by rw [upd_ne npr]; exact rp5
    have up6 : (upd F5 pp (.dK [])) up = some (.lst (us.map V.str)) := by rw [upd_ne npu]; exact up5
    have gp6 : (upd F5 pp (.dK [])) gp = some (.lst (gk.map kV)) := by rw [upd_ne npg]; exact gp5
    have pp6 : (upd F5 pp (.dK [])) pp = some (.dK (pwK [])) := upd_same
    clear rp5 up5 gp5
    generalize upd F5 pp (.dK []) = F6 at *
    generalize upd H8 pp (.dK []) = H9 at *
    have pw0 : PwOk [] (unks rs) := ⟨List.nodup_nil, (fun _ z => by cases z), by decide⟩
    refine ⟨fun σ H' => ∃ (F' : Hp) (pw : List (Str × Int)) (v7 : Option V), σ = [some (.ref b), some (.ref tb), some (.int mo), some (.ref po), some (.int sp), some (.ref rp), some (.ref up), v7, v8, v9, v10, some (.ref gp), some (.ref pp)] ∧ Fl G F' H' b ∧ F' rp = some (.lst xs) ∧ F' gp = some (.lst (gk.map kV)) ∧ F' pp = some (.dK (pwK pw)) ∧ PwOk pw (unks rs), ?_, ?_⟩
    · refine ⟨_, rfl, up, _, rfl, .inl (.inl (.inl (f6.at up6))), _, _, rfl, rfl, _, rfl, ifd (fun pz => ?_) fun _ => ⟨F6, [], _, rfl, f6, rp6, gp6, pp6, pw0⟩⟩
      have lu : 1 ≤ us.length := by
        rw [List.length_map] at pz
        omega
      refine ⟨_, rfl, F6, b, 4, rfl, by decide, by decide, f6.bag, fun r1 H10 b0 b1 B10 => ⟨_, rfl, by omega, by omega, ?_⟩⟩
      refine for_range (lo := 0) (n := r1.toNat) (fun i σ H' => ∃ (F' : Hp) (pw : List (Str × Int)) (v7 : Option V), σ = [some (.ref b), some (.ref tb), some (.int mo), some (.ref po), some (.int sp), some (.ref rp), some (.ref up), v7, v8, v9, v10, some (.ref gp), some (.ref pp)] ∧ Fl G F' H' b ∧ F' rp = some (.lst xs) ∧ F' up = some (.lst (us.map V.str)) ∧ F' gp = some (.lst (gk.map kV)) ∧ F' pp = some (.dK (pwK pw)) ∧ PwOk pw (unks rs) ∧ pw.length ≤ i)
        ⟨F6, [], _, rfl, f6.on B10, rp6, up6, gp6, pp6, pw0, Nat.le_refl _⟩ ?_ ?_
      · rintro i σ H11 hi ⟨F7, pw, v7, rfl, f7, rp7, up7, gp7, pp7, pok, lpw⟩
        refine ⟨(by show 5 ≤ sizeLine; decide), fun m hm => ⟨_, rfl, _, b, 5, rfl, by decide, by decide, f7.bag.new _ hm, fun r5 H12 a0 a1 B12 => ?_⟩⟩
        obtain ⟨v, hv, hvm⟩ := at_mem (xs := ([1, 1, 2, 3, 100] : List Int).map V.int) a0 a1
        obtain ⟨e, he, rfl⟩ := List.mem_map.mp hvm
        have e100 : 1 ≤ e ∧ e ≤ 100 := by
          have all : ∀ z ∈ ([1, 1, 2, 3, 100] : List Int), 1 ≤ z ∧ z ≤ 100 := by decide
          exact all e he
        have B13 := bag_sub (F := F7) (fun a o z => by rw [upd_ne (ne_of_none (f7.bag.fh _ _ z) hm)]; exact z) B12
        refine ⟨m, _, _, _, rfl, rfl, .inl (.inl (B12.fh _ _ upd_same)), hv, ?_⟩
        refine ⟨_, rfl, _, rfl, _, rfl, _, rfl, up, _, rfl, .inl (.inl (.inl (B13.fh _ _ up7))), F7, b, ((us.map V.str).length : Int), rfl, by rw [List.length_map]; omega, by rw [List.length_map]; omega, B13, fun r6 H14 e0 e1 B14 => ?_⟩
        obtain ⟨v2, hv2, hvm2⟩ := at_mem (xs := us.map V.str) e0 e1
        obtain ⟨s, hs, rfl⟩ := List.mem_map.mp hvm2
        have pz := pok.put (kn s hs) e100.1 e100.2 lpw (by omega)
        have l3 : (pwK pw).length < sizeLine := by
          unfold pwK
          rw [List.length_map]
          exact Nat.lt_of_le_of_lt (show pw.length ≤ 100 by omega) (by decide)
        refine ⟨up, _, _, _, rfl, rfl, .inl (.inl (B14.fh _ _ up7)), hv2, pp, _, rfl, .inl ⟨pwK pw, Sum.inr s, B14.fh _ _ pp7, rfl, l3, rfl⟩, ?_⟩
        refine ⟨_, putP pw s e, _, rfl, (f7.on B14).put _ gpp pp7, by rw [upd_ne npr]; exact rp7, by rw [upd_ne npu]; exact up7, by rw [upd_ne npg]; exact gp7, by rw [upd_same, pwK_put], pz.1, pz.2⟩
      · rintro σ H11 ⟨F7, pw, v7, rfl, f7, rp7, up7, gp7, pp7, pok, lpw⟩
        exact ⟨F7, pw, _, rfl, f7, rp7, gp7, pp7, pok⟩
    · rintro σ H10 ⟨F7, pw, v7, rfl, f7, rp7, gp7, pp7, pok⟩
      refine ⟨_, rfl, _, rfl, _, rfl, (by show 3 ≤ sizeLine; decide), fun tp htp => ?_⟩
      have f8 := f7.new (.tup [.ref rp, .ref gp, .ref pp]) htp
      have nF := (f7.free htp).1
      have s8 : Same F7 (upd F7 tp (.tup [.ref rp, .ref gp, .ref pp])) := same_new _ nF
      exact k tp rp gp pp _ _ rs gk pw f8.bag ((s1.trans sG).trans (f7.gf.trans s8)) upd_same (.lst (s8 _ _ rp7) (tR.same (f7.gf.trans s8))) (.lst (s8 _ _ gp7) (keys_tp _)) (s8 _ _ pp7) lmo fit lg3 ogk (fun s ms => kn s (kgk s ms)) pok
end
end Fm

/-! ## K32MA -/
set_option Elab.async false
set_option maxRecDepth 100000
set_option maxHeartbeats 4000000
namespace Fm
open PySem L2
/-! ### maps of rows into rows: what symbols go over into -/
abbrev IG := List (Key × Key)
def imG (m : IG) : List (Key × V) := m.map fun p => (p.1, kV p.2)
def getG (m : IG) (k : Key) : Option Key := (m.find? fun p => decide (p.1 = k)).map (·.2)
def ownG (k i : Key) : Key := match k with
  | .inl z => .inl z
  | .inr _ => i
def ext1G (m : IG) (k i : Key) : Option IG := match getG m k with
  | some j => if j = i then some m else none
  | none => if ownG k i = i then some (m ++ [(k, ownG k i)]) else none
def extLG : IG → List (Key × Key) → Option IG
  | m, [] => some m
  | m, p :: r => match ext1G m p.1 p.2 with
    | some m2 => extLG m2 r
    | none => none
def extG (m : IG) (ks is : List Key) : Option IG := if ks.length = is.length then extLG m (ks.zip is) else none
theorem kV_inj {a b : Key} (h : kV a = kV b) : a = b := by
  cases a <;> cases b <;> simp only [kV] at h <;> cases h <;> rfl
theorem imG_val (k : Key) : ∀ m : IG, valV (imG m) k = (getG m k).map kV
  | [] => rfl
  | p :: m => by
    show valV ((p.1, kV p.2) :: imG m) k = (((p :: m).find? fun p => decide (p.1 = k)).map (·.2)).map kV
    by_cases e : p.1 = k
    · rw [valV_pos e, List.find?_cons_of_pos (by simp [e])]
      rfl
    · rw [valV_neg e, List.find?_cons_of_neg (by simp [e]), imG_val k m]
      rfl
theorem imG_put {m : IG} {k d : Key} (h : getG m k = none) : putK (imG m) k (kV d) = imG (m ++ [(k, d)]) := by
  have z : valV (imG m) k = none := by rw [imG_val, h]; rfl
  rw [putK_new _ z]
  unfold imG
  rw [List.map_append]
  rfl
theorem getG_snoc {m : IG} {k j : Key} (d : Key) (h : getG m k = none) : getG (m ++ [(k, d)]) j = if j = k then some d else getG m j := by
  unfold getG at h ⊢
  rw [List.find?_append]
  by_cases e : j = k
  · subst e
    rw [if_pos rfl, Option.map_eq_none_iff.mp h, Option.none_or, List.find?_cons_of_pos (by simp)]
    rfl
  · rw [if_neg e, List.find?_cons_of_neg (by simp [Ne.symm e]), List.find?_nil, Option.or_none]
theorem ext1G_len {m m2 : IG} {k i : Key} (h : ext1G m k i = some m2) : m2.length ≤ m.length + 1 := by
  unfold ext1G at h
  cases e : getG m k with
  | some j =>
    rw [e] at h
    by_cases q : j = i
    · simp only [if_pos q] at h
      cases h
      omega
    · simp only [if_neg q] at h
      cases h
  | none =>
    rw [e] at h
    by_cases q : ownG k i = i
    · simp only [if_pos q] at h
      cases h
      rw [List.length_append]
      exact Nat.le_refl _
    · simp only [if_neg q] at h
      cases h
theorem extLG_len : ∀ {r : List (Key × Key)} {m m2 : IG}, extLG m r = some m2 → m2.length ≤ m.length + r.length
  | [], m, m2, h => by
    cases h
    exact Nat.le_refl _
  | p :: r, m, m2, h => by
    unfold extLG at h
    cases e : ext1G m p.1 p.2 with
    | none => rw [e] at h; cases h
    | some m3 =>
      rw [e] at h
      have z := ext1G_len e
      have y := extLG_len h
      rw [List.length_cons]
      omega
theorem extG_len {m m2 : IG} {ks is : List Key} (h : extG m ks is = some m2) : m2.length ≤ m.length + ks.length := by
  unfold extG at h
  by_cases c : ks.length = is.length
  · rw [if_pos c] at h
    have z := extLG_len h
    rw [List.length_zip] at z
    omega
  · rw [if_neg c] at h
    cases h
theorem extLG_app {xs ys : List (Key × Key)} : ∀ {m : IG}, extLG m (xs ++ ys) = (extLG m xs).bind fun m2 => extLG m2 ys := by
  induction xs with
  | nil => intro m; rfl
  | cons q xs ih =>
    intro m
    show (match ext1G m q.1 q.2 with | some m2 => extLG m2 (xs ++ ys) | none => none) = (match ext1G m q.1 q.2 with | some m2 => extLG m2 xs | none => none).bind fun m2 => extLG m2 ys
    cases f : ext1G m q.1 q.2 with
    | none => rfl
    | some m2 => exact ih
theorem extLG_take {m m1 : IG} {r : List (Key × Key)} {i : Nat} {p : Key × Key} (h : r[i]? = some p) (h1 : extLG m (r.take i) = some m1) : extLG m (r.take (i + 1)) = ext1G m1 p.1 p.2 := by
  rw [List.take_add_one, h, extLG_app, h1]
  show (match ext1G m1 p.1 p.2 with | some m2 => extLG m2 [] | none => none) = _
  cases ext1G m1 p.1 p.2 <;> rfl
theorem extLG_none {m : IG} {r : List (Key × Key)} {n : Nat} (h : extLG m (r.take n) = none) : extLG m r = none := by
  conv => lhs; rw [← List.take_append_drop n r]
  rw [extLG_app, h]
  rfl
/-! ### what is known stays -/
def SubG (m m2 : IG) : Prop := ∀ k j, getG m k = some j → getG m2 k = some j
def SoundG (m : IG) : Prop := ∀ z j, getG m (.inl z) = some j → j = .inl z
theorem SubG.refl (m : IG) : SubG m m := fun _ _ h => h
theorem SubG.trans {a b c : IG} (h : SubG a b) (g : SubG b c) : SubG a c := fun k j e => g k j (h k j e)
theorem soundG_nil : SoundG [] := fun _ _ h => by cases h
theorem ext1G_ok {m m2 : IG} {k i : Key} (h : ext1G m k i = some m2) : SubG m m2 ∧ (SoundG m → SoundG m2) := by
  unfold ext1G at h
  cases e : getG m k with
  | some j =>
    rw [e] at h
    by_cases q : j = i
    · simp only [if_pos q] at h
      cases h
      exact ⟨SubG.refl _, id⟩
    · simp only [if_neg q] at h
      cases h
  | none =>
    rw [e] at h
    by_cases q : ownG k i = i
    · simp only [if_pos q] at h
      cases h
      refine ⟨fun k2 j h2 => ?_, fun s z j h2 => ?_⟩
      · rw [getG_snoc _ e]
        by_cases c : k2 = k
        · rw [c, e] at h2
          cases h2
        · rw [if_neg c]
          exact h2
      · rw [getG_snoc _ e] at h2
        by_cases c : (Sum.inl z : Key) = k
        · rw [if_pos c] at h2
          rw [← Option.some.inj h2, ← c]
          rfl
        · rw [if_neg c] at h2
          exact s z j h2
    · simp only [if_neg q] at h
      cases h
theorem extLG_ok : ∀ {r : List (Key × Key)} {m m2 : IG}, extLG m r = some m2 → SubG m m2 ∧ (SoundG m → SoundG m2)
  | [], m, m2, h => by
    cases h
    exact ⟨SubG.refl _, id⟩
  | p :: r, m, m2, h => by
    unfold extLG at h
    cases e : ext1G m p.1 p.2 with
    | none => rw [e] at h; cases h
    | some m3 =>
      rw [e] at h
      obtain ⟨a, b⟩ := ext1G_ok e
      obtain ⟨c, d⟩ := extLG_ok h
      exact ⟨a.trans c, fun s => d (b s)⟩
theorem extG_ok {m m2 : IG} {ks is : List Key} (h : extG m ks is = some m2) : SubG m m2 ∧ (SoundG m → SoundG m2) := by
  unfold extG at h
  by_cases c : ks.length = is.length
  · rw [if_pos c] at h
    exact extLG_ok h
  · rw [if_neg c] at h
    cases h
theorem ext1G_mono {m m' m2' : IG} {k i : Key} (s : SubG m m') (so : SoundG m') (h : ext1G m' k i = some m2') : ∃ m2, ext1G m k i = some m2 ∧ SubG m m2 ∧ SubG m2 m2' := by
  obtain ⟨sub', _⟩ := ext1G_ok h
  unfold ext1G at h ⊢
  cases e : getG m k with
  | some j =>
    rw [s k j e] at h
    by_cases q : j = i
    · exact ⟨m, if_pos q, SubG.refl _, s.trans sub'⟩
    · simp only [if_neg q] at h
      cases h
  | none =>
    have own : ownG k i = i ∧ getG m2' k = some i := by
      cases e2 : getG m' k with
      | some j =>
        rw [e2] at h
        by_cases q : j = i
        · simp only [if_pos q] at h
          cases h
          subst q
          refine ⟨?_, e2⟩
          cases k with
          | inl z => exact (so z j e2).symm
          | inr _ => rfl
        · simp only [if_neg q] at h
          cases h
      | none =>
        rw [e2] at h
        by_cases q : ownG k i = i
        · simp only [if_pos q] at h
          cases h
          exact ⟨q, by rw [getG_snoc _ e2, if_pos rfl, q]⟩
        · simp only [if_neg q] at h
          cases h
    refine ⟨m ++ [(k, ownG k i)], if_pos own.1, fun k2 j h2 => ?_, fun k2 j h2 => ?_⟩
    · rw [getG_snoc _ e]
      by_cases c : k2 = k
      · rw [c, e] at h2
        cases h2
      · rw [if_neg c]
        exact h2
    · rw [getG_snoc _ e] at h2
      by_cases c : k2 = k
      · rw [if_pos c] at h2
        rw [c, own.2, ← Option.some.inj h2, own.1]
      · rw [if_neg c] at h2
        exact sub' k2 j (s k2 j h2)
theorem extLG_mono : ∀ {r : List (Key × Key)} {m m' m2' : IG}, SubG m m' → SoundG m' → extLG m' r = some m2' → ∃ m2, extLG m r = some m2 ∧ SubG m2 m2'
  | [], m, m', m2', s, _, h => by
    cases h
    exact ⟨m, rfl, s⟩
  | p :: r, m, m', m2', s, so, h => by
    unfold extLG at h ⊢
    cases e : ext1G m' p.1 p.2 with
    | none => rw [e] at h; cases h
    | some m3' =>
      rw [e] at h
      obtain ⟨m3, e3, _, s3⟩ := ext1G_mono s so e
      rw [e3]
      exact extLG_mono s3 ((ext1G_ok e).2 so) h
theorem extG_mono {m m' m2' : IG} {ks is : List Key} (s : SubG m m') (so : SoundG m') (h : extG m' ks is = some m2') : ∃ m2, extG m ks is = some m2 ∧ SubG m2 m2' := by
  unfold extG at h ⊢
  by_cases c : ks.length = is.length
  · rw [if_pos c] at h ⊢
    exact extLG_mono s so h
  · rw [if_neg c] at h
    cases h
/-! ### maps -/
def rowN (os : List PRow) (a : Nat) : PRow := os.getD a ("", [])
def fitsG (os : List PRow) (m : IG) (r : PRow) (a : Nat) : Bool := decide ((rowN os a).1 = r.1) && (extG m r.2 (rowN os a).2).isSome
def placesG (r : PRow) (os : List PRow) (m : IG) : List Nat := (List.range os.length).filter (fitsG os m r)
def firstG (f : Nat → Option (List Nat)) : List Nat → Option (List Nat)
  | [] => none
  | a :: l => match f a with
    | some x => some (a :: x)
    | none => firstG f l
def mapG : List PRow → List PRow → IG → Option (List Nat)
  | [], _, _ => some []
  | r :: rs, os, m => if (r :: rs).all (fun q => decide (placesG q os m ≠ [])) = true then firstG (fun a => (extG m r.2 (rowN os a).2).bind (mapG rs os)) (placesG r os m) else none
def chainG (os : List PRow) : IG → List PRow → List Nat → Option IG
  | m, [], [] => some m
  | m, r :: rs, a :: l => if decide (a < os.length) && decide ((rowN os a).1 = r.1) then (extG m r.2 (rowN os a).2).bind fun m2 => chainG os m2 rs l else none
  | _, _, _ => none
theorem firstG_some {f : Nat → Option (List Nat)} : ∀ {l : List Nat} {x : List Nat}, firstG f l = some x → ∃ a ∈ l, ∃ y, f a = some y ∧ x = a :: y
  | a :: l, x, h => by
    unfold firstG at h
    cases e : f a with
    | some y =>
      rw [e] at h
      cases h
      exact ⟨a, List.mem_cons_self, y, e, rfl⟩
    | none =>
      rw [e] at h
      obtain ⟨b, mb, q⟩ := firstG_some h
      exact ⟨b, List.mem_cons_of_mem _ mb, q⟩
theorem firstG_has {f : Nat → Option (List Nat)} {a : Nat} : ∀ {l : List Nat}, a ∈ l → (f a).isSome = true → (firstG f l).isSome = true
  | b :: l, ma, h => by
    unfold firstG
    cases e : f b with
    | some y => rfl
    | none =>
      rcases List.mem_cons.mp ma with rfl | ma
      · rw [e] at h
        cases h
      · exact firstG_has ma h
theorem placesG_mem {r : PRow} {os : List PRow} {m : IG} {a : Nat} : a ∈ placesG r os m ↔ a < os.length ∧ (rowN os a).1 = r.1 ∧ (extG m r.2 (rowN os a).2).isSome = true := by
  unfold placesG fitsG
  rw [List.mem_filter, List.mem_range, Bool.and_eq_true, decide_eq_true_eq]
theorem mapG_sound {os : List PRow} : ∀ {rs : List PRow} {m : IG} {l : List Nat}, mapG rs os m = some l → (chainG os m rs l).isSome = true
  | [], m, l, h => by
    cases h
    rfl
  | r :: rs, m, l, h => by
    unfold mapG at h
    split at h
    · obtain ⟨a, ma, y, e, rfl⟩ := firstG_some h
      obtain ⟨la, ea, _⟩ := placesG_mem.mp ma
      unfold chainG
      rw [decide_eq_true la, decide_eq_true ea]
      obtain ⟨m2, e2, e3⟩ := Option.bind_eq_some_iff.mp e
      show ((extG m r.2 (rowN os a).2).bind fun m2 => chainG os m2 rs y).isSome = true
      rw [e2]
      exact mapG_sound e3
    · cases h
theorem chain_place {os : List PRow} {m0 : IG} : ∀ {rs : List PRow} {m : IG} {l : List Nat}, SubG m0 m → SoundG m → (chainG os m rs l).isSome = true → ∀ r ∈ rs, placesG r os m0 ≠ []
  | r :: rs, m, a :: l, s, so, h, q, mq => by
    unfold chainG at h
    split at h
    · rename_i c
      rw [Bool.and_eq_true, decide_eq_true_eq, decide_eq_true_eq] at c
      cases e : extG m r.2 (rowN os a).2 with
      | none => rw [e] at h; cases h
      | some m2 =>
        rw [e] at h
        obtain ⟨s2, so2⟩ := extG_ok e
        rcases List.mem_cons.mp mq with rfl | mq
        · intro z
          obtain ⟨m3, e3, _⟩ := extG_mono s so e
          have ma : a ∈ placesG q os m0 := placesG_mem.mpr ⟨c.1, c.2, by rw [e3]; rfl⟩
          rw [z] at ma
          cases ma
        · exact chain_place (s.trans s2) (so2 so) h q mq
    · cases h
theorem mapG_comp {os : List PRow} : ∀ {rs : List PRow} {m : IG} {l : List Nat}, SoundG m → (chainG os m rs l).isSome = true → (mapG rs os m).isSome = true
  | [], m, l, _, _ => rfl
  | r :: rs, m, a :: l, so, h => by
    have pl := chain_place (SubG.refl m) so h
    unfold mapG
    rw [if_pos (List.all_eq_true.mpr fun q mq => decide_eq_true (pl q mq))]
    unfold chainG at h
    split at h
    · rename_i c
      rw [Bool.and_eq_true, decide_eq_true_eq, decide_eq_true_eq] at c
      cases e : extG m r.2 (rowN os a).2 with
      | none => rw [e] at h; cases h
      | some m2 =>
        rw [e] at h
        refine firstG_has (a := a) (placesG_mem.mpr ⟨c.1, c.2, by rw [e]; rfl⟩) ?_
        show ((extG m r.2 (rowN os a).2).bind (mapG rs os)).isSome = true
        rw [e]
        exact mapG_comp ((extG_ok e).2 so) h
    · cases h
/-! ### the law's own reading -/
def sent1 (m : IG) (k i : Key) : Option IG := match k with
  | .inl z => if (Sum.inl z : Key) = i then some m else none
  | .inr s => match getG m (.inr s) with
    | some j => if j = i then some m else none
    | none => some (m ++ [(.inr s, i)])
def sentL : IG → List (Key × Key) → Option IG
  | m, [] => some m
  | m, p :: r => match sent1 m p.1 p.2 with
    | some m2 => sentL m2 r
    | none => none
def sentG (m : IG) (ks is : List Key) : Option IG := if ks.length = is.length then sentL m (ks.zip is) else none
structure RelG (m n : IG) : Prop where
  so : SoundG m
  eq : ∀ s, getG m (.inr s) = getG n (.inr s)
/-- both fail, or both go on alike -/
def OptR (a b : Option IG) : Prop := (a = none ∧ b = none) ∨ ∃ m n, a = some m ∧ b = some n ∧ RelG m n
theorem OptR.some {a b : Option IG} (h : OptR a b) : a.isSome = b.isSome := by
  rcases h with ⟨rfl, rfl⟩ | ⟨m, n, rfl, rfl, _⟩ <;> rfl
theorem rel1 {m n : IG} (r : RelG m n) (k i : Key) : OptR (ext1G m k i) (sent1 n k i) := by
  cases k with
  | inl z =>
    unfold ext1G sent1
    by_cases c : (Sum.inl z : Key) = i
    · simp only [if_pos c]
      cases e : getG m (.inl z) with
      | some j =>
        have ej := r.so z j e
        exact .inr ⟨m, n, if_pos (ej.trans c), rfl, r⟩
      | none =>
        refine .inr ⟨_, n, if_pos c, rfl, fun z2 j h2 => ?_, fun s => ?_⟩
        · rw [getG_snoc _ e] at h2
          by_cases c2 : (Sum.inl z2 : Key) = .inl z
          · rw [if_pos c2] at h2
            rw [← Option.some.inj h2, c2]
            rfl
          · rw [if_neg c2] at h2
            exact r.so z2 j h2
        · rw [getG_snoc _ e, if_neg (fun q => by cases q)]
          exact r.eq s
    · simp only [if_neg c]
      cases e : getG m (.inl z) with
      | some j => exact .inl ⟨if_neg (fun q => c ((r.so z j e).symm.trans q)), rfl⟩
      | none => exact .inl ⟨if_neg c, rfl⟩
  | inr s =>
    unfold ext1G sent1
    simp only [r.eq s]
    cases e : getG n (.inr s) with
    | some j =>
      by_cases c : j = i
      · simp only [if_pos c]
        exact .inr ⟨m, n, rfl, rfl, r⟩
      · simp only [if_neg c]
        exact .inl ⟨rfl, rfl⟩
    | none =>
      have e' : getG m (.inr s) = none := by rw [r.eq s, e]
      refine .inr ⟨m ++ [(.inr s, i)], n ++ [(.inr s, i)], if_pos rfl, rfl, fun z j h2 => ?_, fun s2 => ?_⟩
      · rw [getG_snoc _ e', if_neg (fun q => by cases q)] at h2
        exact r.so z j h2
      · rw [getG_snoc _ e', getG_snoc _ e, r.eq s2]
theorem relL : ∀ {xs : List (Key × Key)} {m n : IG}, RelG m n → OptR (extLG m xs) (sentL n xs)
  | [], m, n, r => .inr ⟨m, n, rfl, rfl, r⟩
  | p :: xs, m, n, r => by
    unfold extLG sentL
    rcases rel1 r p.1 p.2 with ⟨e1, e2⟩ | ⟨m2, n2, e1, e2, r2⟩
    · rw [e1, e2]
      exact .inl ⟨rfl, rfl⟩
    · rw [e1, e2]
      exact relL r2
theorem relG {m n : IG} (r : RelG m n) (ks is : List Key) : OptR (extG m ks is) (sentG n ks is) := by
  unfold extG sentG
  by_cases c : ks.length = is.length
  · rw [if_pos c, if_pos c]
    exact relL r
  · rw [if_neg c, if_neg c]
    exact .inl ⟨rfl, rfl⟩
theorem relG_nil : RelG [] [] := ⟨soundG_nil, fun _ => rfl⟩
def overG (os : List PRow) : IG → List PRow → List Nat → Option IG
  | n, [], _ => some n
  | n, r :: rs, l => if r.1 = (rowN os (l.headD 0)).1 then (sentG n r.2 (rowN os (l.headD 0)).2).bind fun n2 => overG os n2 rs l.tail else none
theorem over_chain {os : List PRow} : ∀ {rs : List PRow} {l : List Nat} {m n : IG}, RelG m n → l.length = rs.length → (∀ a ∈ l, a < os.length) → (chainG os m rs l).isSome = (overG os n rs l).isSome
  | [], [], m, n, _, _, _ => rfl
  | r :: rs, a :: l, m, n, rl, hl, ha => by
    unfold chainG overG
    rw [decide_eq_true (ha a List.mem_cons_self)]
    by_cases c : (rowN os a).1 = r.1
    · rw [decide_eq_true c, if_pos (show r.1 = (rowN os ((a :: l).headD 0)).1 from c.symm)]
      show ((extG m r.2 (rowN os a).2).bind fun m2 => chainG os m2 rs l).isSome = ((sentG n r.2 (rowN os a).2).bind fun n2 => overG os n2 rs l).isSome
      rcases relG rl r.2 (rowN os a).2 with ⟨e1, e2⟩ | ⟨m2, n2, e1, e2, r2⟩
      · rw [e1, e2]
        rfl
      · rw [e1, e2]
        exact over_chain r2 (Nat.succ.inj hl) fun b mb => ha b (List.mem_cons_of_mem _ mb)
    · rw [decide_eq_false c, if_neg (show ¬ r.1 = (rowN os ((a :: l).headD 0)).1 from fun z => c z.symm)]
      rfl
  | [], _ :: _, _, _, _, h, _ => by cases h
  | _ :: _, [], _, _, _, h, _ => by cases h
def mapOver (rs : List PRow) (gk : List Key) (os : List PRow) (ok : List Key) (l : List Nat) : Option IG := (sentG [] gk ok).bind fun n => overG os n rs l
def groupMap (rs : List PRow) (gk : List Key) (os : List PRow) (ok : List Key) : Option (List Nat) := (extG [] gk ok).bind (mapG rs os)
theorem chain_len {os : List PRow} : ∀ {rs : List PRow} {l : List Nat} {m : IG}, (chainG os m rs l).isSome = true → l.length = rs.length ∧ ∀ a ∈ l, a < os.length
  | [], [], _, _ => ⟨rfl, fun _ m => by cases m⟩
  | r :: rs, a :: l, m, h => by
    unfold chainG at h
    split at h
    · rename_i c
      rw [Bool.and_eq_true, decide_eq_true_eq, decide_eq_true_eq] at c
      cases e : extG m r.2 (rowN os a).2 with
      | none => rw [e] at h; cases h
      | some m2 =>
        rw [e] at h
        obtain ⟨h1, h2⟩ := chain_len (m := m2) h
        exact ⟨by rw [List.length_cons, List.length_cons, h1], fun b mb => by
          rcases List.mem_cons.mp mb with rfl | mb
          · exact c.1
          · exact h2 b mb⟩
    · cases h
  | [], _ :: _, _, h => by cases h
  | _ :: _, [], _, h => by cases h
/-- what the program finds is a map as the law reads it -/
theorem groupMap_sound {rs os : List PRow} {gk ok : List Key} {l : List Nat} (h : groupMap rs gk os ok = some l) : l.length = rs.length ∧ (∀ a ∈ l, a < os.length) ∧ (mapOver rs gk os ok l).isSome = true := by
  unfold groupMap at h
  obtain ⟨m, e, e2⟩ := Option.bind_eq_some_iff.mp h
  have s := mapG_sound e2
  obtain ⟨h1, h2⟩ := chain_len s
  refine ⟨h1, h2, ?_⟩
  unfold mapOver
  rcases relG relG_nil gk ok with ⟨q, _⟩ | ⟨m2, n2, q1, q2, r2⟩
  · rw [e] at q
    cases q
  · rw [e] at q1
    cases q1
    rw [q2]
    show (overG os n2 rs l).isSome = true
    rw [← over_chain r2 h1 h2]
    exact s
/-- and it finds one where there is one -/
theorem groupMap_comp {rs os : List PRow} {gk ok : List Key} {l : List Nat} (h1 : l.length = rs.length) (h2 : ∀ a ∈ l, a < os.length) (h : (mapOver rs gk os ok l).isSome = true) : (groupMap rs gk os ok).isSome = true := by
  unfold mapOver at h
  unfold groupMap
  rcases relG relG_nil gk ok with ⟨_, q⟩ | ⟨m2, n2, q1, q2, r2⟩
  · rw [q] at h
    cases h
  · rw [q2] at h
    rw [q1]
    have z : (overG os n2 rs l).isSome = true := h
    rw [← over_chain r2 h1 h2] at z
    exact mapG_comp r2.so z
/-- each pattern goes over into itself -/
def IdG (m : IG) : Prop := ∀ k j, getG m k = some j → j = k
theorem ext1G_id {m : IG} (h : IdG m) (k : Key) : ∃ m2, ext1G m k k = some m2 ∧ IdG m2 := by
  unfold ext1G
  cases e : getG m k with
  | some j => exact ⟨m, if_pos (h k j e), h⟩
  | none =>
    have own : ownG k k = k := by cases k <;> rfl
    refine ⟨_, if_pos own, fun k2 j h2 => ?_⟩
    rw [getG_snoc _ e] at h2
    by_cases c : k2 = k
    · rw [if_pos c, own] at h2
      rw [c, ← Option.some.inj h2]
    · rw [if_neg c] at h2
      exact h k2 j h2
theorem extG_id {m : IG} (h : IdG m) (ks : List Key) : ∃ m2, extG m ks ks = some m2 ∧ IdG m2 := by
  unfold extG
  rw [if_pos rfl]
  have go : ∀ (ks : List Key) {m : IG}, IdG m → ∃ m2, extLG m (ks.zip ks) = some m2 ∧ IdG m2 := by
    intro ks
    induction ks with
    | nil => exact fun {m} h => ⟨m, rfl, h⟩
    | cons k ks ih =>
      intro m h
      obtain ⟨m2, e, h2⟩ := ext1G_id h k
      rw [List.zip_cons_cons]
      unfold extLG
      rw [e]
      exact ih h2
  exact go ks h
theorem groupMap_self (rs : List PRow) (gk : List Key) : (groupMap rs gk rs gk).isSome = true := by
  obtain ⟨m, e, h⟩ := extG_id (m := []) (fun _ _ z => by cases z) gk
  unfold groupMap
  rw [e]
  have go : ∀ (bs as : List PRow) {m : IG}, as ++ bs = rs → IdG m → (chainG rs m bs ((List.range bs.length).map (as.length + ·))).isSome = true := by
    intro bs
    induction bs with
    | nil => exact fun as {m} _ _ => rfl
    | cons r bs ih =>
      intro as m ea hm
      have er : rowN rs as.length = r := by
        unfold rowN
        rw [← ea, List.getD_eq_getElem?_getD, List.getElem?_append_right (Nat.le_refl _), Nat.sub_self]
        rfl
      have el : (List.range (r :: bs).length).map (as.length + ·) = as.length :: (List.range bs.length).map ((as ++ [r]).length + ·) := by
        rw [List.length_cons, List.range_succ_eq_map, List.map_cons, List.map_map, Nat.add_zero]
        congr 1
        refine List.map_congr_left fun n _ => ?_
        rw [List.length_append]
        show as.length + (n + 1) = as.length + 1 + n
        omega
      rw [el]
      unfold chainG
      have lt : as.length < rs.length := by rw [← ea, List.length_append, List.length_cons]; omega
      rw [decide_eq_true lt, er, decide_eq_true rfl]
      obtain ⟨m2, e2, h2⟩ := extG_id hm r.2
      show ((extG m r.2 r.2).bind fun m2 => chainG rs m2 bs _).isSome = true
      rw [e2]
      exact ih (as ++ [r]) (by rw [List.append_assoc]; exact ea) h2
  refine mapG_comp (l := (List.range rs.length).map (([] : List PRow).length + ·)) ((extG_ok e).2 soundG_nil) (go rs [] rfl h)
end Fm

/-! ## K32MB -/
set_option Elab.async false
set_option maxRecDepth 100000
set_option maxHeartbeats 4000000
namespace Fm
open PySem L2
theorem opK_neD {X : Cx} {K : PySem.W.Frag} (hu : X.A.units + 64 < cLine) (hK : X.K = K := by rfl) : OpR X (compareOp .NotEq) (rNeD K) := by
  subst hK
  exact op_neD hu
theorem scal_key (a b : Key) : scal (kV a) (kV b) = true := by cases a <;> cases b <;> rfl
theorem shaped_ints (r : List Int) : SeqAt.shaped (.list (r.map PyData.int)) = true := by
  show (PyData.canLayAll0 (r.map PyData.int) && decide (PyData.depthAll (r.map PyData.int) + 1 ≤ 64)) = true
  rw [can_ints, dp_ints]
  rfl
theorem keysT {H : Hp} {v : V} {ks : List Key} (h : Tp H v (.tuple (ks.map kD))) : ∃ a, v = .ref a ∧ H a = some (.tup (ks.map kV)) := by
  obtain ⟨a, xs, rfl, hx, ha⟩ := h.tuple
  exact ⟨a, rfl, by rw [← keys_inv ha]; exact hx⟩
theorem row_t {H : Hp} {v : V} {r : PRow} (h : Tp H v (prowD false r)) : ∃ a c, v = .ref a ∧ H a = some (.tup [.str r.1, .ref c]) ∧ H c = some (.tup (r.2.map kV)) := by
  obtain ⟨a, c, rfl, ha, _, _, _, t⟩ := row_at h
  obtain ⟨c2, e, hc⟩ := keysT t
  cases e
  exact ⟨a, c, rfl, ha, hc⟩
theorem rows_t {H : Hp} {v : V} {rs : List PRow} (h : Tp H v (rowsD false rs)) : ∃ a xs, v = .ref a ∧ H a = some (.tup xs) ∧ TpAll H xs (rs.map (prowD false)) := (show Tp H v (.tuple (rs.map (prowD false))) from h).tuple
theorem rowN_at {os : List PRow} {i : Nat} {r : PRow} (h : os[i]? = some r) : rowN os i = r := by
  unfold rowN
  rw [List.getD_eq_getElem?_getD, h]
  rfl
section
variable {P : Program} {w : World} {K : PySem.W.Frag} {mg : Str → Option Value} {base : Heap} {CS CP CQ : Addr}
def spExtG : Sp := fun vs H Q _ => ∃ (im sy ot : Addr) (m : IG) (ks is : List Key), vs = [.ref im, .ref sy, .ref ot] ∧ H im = some (.dK (imG m)) ∧ H sy = some (.tup (ks.map kV)) ∧ H ot = some (.tup (is.map kV)) ∧ m.length ≤ 100 ∧ ks.length ≤ 4 ∧
  (extG m ks is = none → ∀ H', Same H H' → Q .non H') ∧ ∀ m2, extG m ks is = some m2 → ∀ p H', H p = none → Same H H' → H' p = some (.dK (imG m2)) → Q (.ref p) H'
abbrev s_extended : Stmt := topS 27
abbrev sc_extendedN : List Str := ["images", "symbols", "others", "more", "symbol", "image"]
abbrev ps_extended : List Str := ["images", "symbols", "others"]
theorem sc_extended : FnScope sc_extendedN ps_extended (defScope s_extended) := ⟨rfl, rfl, rfl, by decide +kernel, rfl, by decide +kernel, by decide +kernel⟩
theorem ok_extended {f : Addr} {fd : FuncData} (F : Fun K "extended" "extended" s_extended f fd) (T : Txt K mg CS) (D_is_unknown : Df P w K mg base "is_unknown" 1 ps_is_unknown spUnk) :
    FnOk P w K mg base CX0 2 f fd ps_extended spExtG := by
  refine F.ok sc_extended (fun vs H Q E h => ?_) (fun cdv A outer s H vs Q E hr h => ?_)
  · obtain ⟨_, _, _, _, _, _, rfl, _⟩ := h
    rfl
  · obtain ⟨im, sy, ot, m, ks, is, rfl, hm, hs, ho, lm, l4, kN, kS⟩ := h
    refine ⟨_, (pss_cons (ps_if (pt_cmpR op_ne (pe_callB call_len_seq (by rfl) T.n_len (by decide +kernel) (pa_cons (pv 1) pa_nil)) (pe_callB call_len_seq (by rfl) T.n_len (by decide +kernel) (pa_cons (pv 2) pa_nil)) (nomark _))
    (pss_one (ps_ret pe_non))
    pss_nil)
  (pss_cons (ps_set (i := 3) sc_extended.nd rfl (Or.inl rfl) (pe_callTy call_dictD (by rfl) T.n_dict (by decide +kernel) (pa_cons (pv 0) pa_nil)))
  (pss_cons (ps_for PassesOwn.never rfl (RZ.pi_zipA (by rfl) T.n_zip (pa_cons (pv 1) (pa_cons (pv 2) pa_nil))) (pg_tup (by rfl) (pgs_cons (pg_name (i := 4) sc_extended.nd rfl (Or.inl rfl)) (pgs_cons (pg_name (i := 5) sc_extended.nd rfl (Or.inl rfl)) pgs_nil)))
    (pss_one (ps_if (pt_cmpR op_ne (pe_dsetd (pv 3) (pv 4) (pe_ifExp (pt_val (pe_d D_is_unknown (hr.mono (by decide)) (pa_cons (pv 4) pa_nil))) (pv 5) (pv 4)) ⟨rfl, rfl, rfl, rfl⟩) (pv 5) (nomark _))
      (pss_one (ps_ret pe_non))
      pss_nil)))
  (pss_one (ps_ret (pv 3)))))), ?_⟩
    refine ⟨_, rfl, sy, _, rfl, .inr (.inl (.inl hs)), _, rfl, ot, _, rfl, .inr (.inl (.inl ho)), rfl, _, rfl, ?_⟩
    refine ifn (fun h1 => ?_) fun h1 => ?_
    · refine kN ?_ _ (Same.refl _)
      unfold extG
      rw [if_neg]
      intro z
      rw [List.length_map, List.length_map, z] at h1
      exact h1 rfl
    have el : ks.length = is.length := by
      have z := V.int.inj h1
      rw [List.length_map, List.length_map] at z
      omega
    have eK : extG m ks is = extLG m (ks.zip is) := if_pos el
    rw [eK] at kN kS
    have lz : (ks.zip is).length = ks.length := by rw [List.length_zip]; omega
    refine ⟨_, rfl, im, _, rfl, .inl hm, fun D hD => ?_⟩
    refine ⟨_, rfl, _, rfl, sy, ot, _, _, rfl, .inr ⟨.inl (.inl (same_new _ hD _ _ hs)), .inl (.inl (same_new _ hD _ _ ho)), ?_⟩⟩
    refine RZ.for_zipT (xs := ks.map kV) (ys := is.map kV) (by rw [List.length_map, List.length_map, el]) (fun i σ H' => ∃ v4 v5 mi, σ = [some (.ref im), some (.ref sy), some (.ref ot), some (.ref D), v4, v5] ∧ Same H H' ∧ H' D = some (.dK (imG mi)) ∧ extLG m ((ks.zip is).take i) = some mi)
      ⟨_, _, m, rfl, same_new _ hD, upd_same, rfl⟩ (fun i σ H' z => by obtain ⟨_, _, _, _, z, _⟩ := z; exact ⟨.inl (.inl (z _ _ hs)), .inl (.inl (z _ _ ho))⟩) ?_ ?_
    · rintro i x y U σ H2 hx hy ⟨v4, v5, mi, rfl, s2, d2, e2⟩ hU
      rw [List.getElem?_map] at hx hy
      obtain ⟨kk, hk, rfl⟩ := Option.map_eq_some_iff.mp hx
      obtain ⟨z, hz, rfl⟩ := Option.map_eq_some_iff.mp hy
      have s3 : Same H (upd H2 U (.tup [kV kk, kV z])) := s2.trans (same_new _ hU)
      have d3 := same_new (.tup [kV kk, kV z]) hU _ _ d2
      have hp : (ks.zip is)[i]? = some (kk, z) := by
        rw [List.getElem?_zip_eq_some]
        exact ⟨hk, hz⟩
      have et := extLG_take hp e2
      refine ⟨U, _, rfl, .inl (.inl upd_same), rfl, _, _, rfl, _, _, rfl, rfl, ?_⟩
      generalize upd H2 U (.tup [kV kk, kV z]) = H3 at *
      have few : (imG mi).length < sizeLine := by
        have z1 := extLG_len e2
        rw [List.length_take] at z1
        unfold imG
        rw [List.length_map]
        exact Nat.lt_of_le_of_lt (show _ ≤ 104 by omega) (by decide)
      have isd : IsD H3 D := .inl ⟨_, .inl d3⟩
      have A1 : ∀ j, getG mi kk = some j → ¬ j = z → extLG m (ks.zip is) = none := fun j e n => by
        refine extLG_none (n := i + 1) ?_
        rw [et]
        show ext1G mi kk z = none
        unfold ext1G
        rw [e]
        exact if_neg n
      have A2 : ∀ j, getG mi kk = some j → j = z → extLG m ((ks.zip is).take (i + 1)) = some mi := fun j e n => by
        rw [et]
        show ext1G mi kk z = some mi
        unfold ext1G
        rw [e]
        exact if_pos n
      have B1 : getG mi kk = none → ¬ ownG kk z = z → extLG m (ks.zip is) = none := fun e n => by
        refine extLG_none (n := i + 1) ?_
        rw [et]
        show ext1G mi kk z = none
        unfold ext1G
        rw [e]
        exact if_neg n
      have B2 : getG mi kk = none → ownG kk z = z → extLG m ((ks.zip is).take (i + 1)) = some (mi ++ [(kk, ownG kk z)]) := fun e n => by
        rw [et]
        show ext1G mi kk z = _
        unfold ext1G
        rw [e]
        exact if_pos n
      have vA : ∀ v, valV (imG mi) kk = some v → ∃ j, getG mi kk = some j ∧ v = kV j := fun v hv => by
        rw [imG_val] at hv
        obtain ⟨j, h1, h2⟩ := Option.map_eq_some_iff.mp hv
        exact ⟨j, h1, h2.symm⟩
      have vB : valV (imG mi) kk = none → getG mi kk = none := fun hv => by
        rw [imG_val] at hv
        exact Option.map_eq_none_iff.mp hv
      have s4 : ∀ o, Same H (upd H3 D o) := fun o => same_put s3 o hD
      cases kk with
      | inl y =>
        refine ⟨_, rfl, D, rfl, isd, _, rfl, _, rfl, _, _, rfl, Tp.int y, _, rfl, iteF ⟨_, rfl, _, Sum.inl y, d3, rfl, few, fun v hv => ?_, fun hv => ?_⟩⟩
        · obtain ⟨j, hj, rfl⟩ := vA v hv
          refine ⟨_, rfl, scal_key j z, _, rfl, ifn (fun ne => kN (A1 j hj fun q => ne (by rw [q])) _ s3) fun q => ?_⟩
          exact ⟨_, _, mi, rfl, s3, d3, A2 j hj (kV_inj q)⟩
        · refine ⟨_, rfl, scal_key (.inl y) z, _, rfl, ifn (fun ne => kN (B1 (vB hv) fun q => ne (by rw [← q]; rfl)) _ (s4 _)) fun q => ?_⟩
          exact ⟨_, _, _, rfl, s4 _, by rw [upd_same]; exact congrArg (fun l => some (HO.dK l)) (imG_put (d := .inl y) (vB hv)), B2 (vB hv) (kV_inj q)⟩
      | inr y =>
        refine ⟨_, rfl, D, rfl, isd, _, rfl, _, rfl, _, _, rfl, Tp.str y, _, rfl, iteT ⟨_, rfl, _, Sum.inr y, d3, rfl, few, fun v hv => ?_, fun hv => ?_⟩⟩
        · obtain ⟨j, hj, rfl⟩ := vA v hv
          refine ⟨_, rfl, scal_key j z, _, rfl, ifn (fun ne => kN (A1 j hj fun q => ne (by rw [q])) _ s3) fun q => ?_⟩
          exact ⟨_, _, mi, rfl, s3, d3, A2 j hj (kV_inj q)⟩
        · refine ⟨_, rfl, scal_key z z, _, rfl, ifn (fun ne => absurd rfl ne) fun q => ?_⟩
          exact ⟨_, _, _, rfl, s4 _, by rw [upd_same]; exact congrArg (fun l => some (HO.dK l)) (imG_put (d := z) (vB hv)), B2 (vB hv) rfl⟩
    · rintro σ H2 ⟨v4, v5, mi, rfl, s2, d2, e2⟩
      rw [List.length_map, ← lz, List.take_length] at e2
      exact ⟨_, rfl, kS mi e2 D H2 hD s2 d2⟩
def spPlaces : Sp := fun vs H Q _ => ∃ (v : V) (o im : Addr) (r : PRow) (os : List PRow) (m : IG), vs = [v, .ref o, .ref im] ∧ Tp H v (prowD false r) ∧ Tp H (.ref o) (rowsD false os) ∧ H im = some (.dK (imG m)) ∧ m.length ≤ 100 ∧ r.2.length ≤ 4 ∧ os.length ≤ 6 ∧
  ∀ p H', H p = none → Same H H' → H' p = some (.lst ((placesG r os m).map fun a => V.int (a : Nat))) → Q (.ref p) H'
abbrev s_places_of : Stmt := topS 31
abbrev sc_places_ofN : List Str := ["row", "others", "images", "table", "symbols", "at", "place", "there"]
abbrev ps_places_of : List Str := ["row", "others", "images"]
theorem sc_places_of : FnScope sc_places_ofN ps_places_of (defScope s_places_of) := ⟨rfl, rfl, rfl, by decide +kernel, rfl, by decide +kernel, by decide +kernel⟩
theorem ok_places_of {f : Addr} {fd : FuncData} (F : Fun K "places_of" "places_of" s_places_of f fd) (T : Txt K mg CS) (D_extended : Df P w K mg base "extended" 2 ps_extended spExtG) : FnOk P w K mg base CX0 3 f fd ps_places_of spPlaces := by
  refine F.ok sc_places_of (fun vs H Q E h => ?_) (fun cdv A outer s H vs Q E hr h => ?_)
  · obtain ⟨_, _, _, _, _, _, rfl, _⟩ := h
    rfl
  · obtain ⟨v, o, im, r, os, m, rfl, hv, ho, him, lm, l4, o6, k⟩ := h
    refine ⟨_, (pss_cons (ps_asg (pv 0) (pg_tup (by rfl) (pgs_cons (pg_name (i := 3) sc_places_of.nd rfl (Or.inr rfl)) (pgs_cons (pg_name (i := 4) sc_places_of.nd rfl (Or.inr rfl)) pgs_nil))))
  (pss_one (ps_ret (pe_lc (own := [("at", 5), ("place", 6), ("there", 7)]) (g := gTup K 2 (gCons (gName 5) (gCons (gTup K 2 (gCons (gName 6) (gCons (gName 7) gNil))) gNil))) (tt := _) (by rfl) sc_places_of.nd (pi_enumA (by rfl) T.n_enumerate (pa_cons (pv 1) pa_nil)) (blkOk_by (own := [("at", 5), ("place", 6), ("there", 7)]) (N := sc_places_ofN) (sc := defScope s_places_of) (by decide +kernel)) (fun _ _ _ _ _ => pg_tup (by rfl) (pgs_cons (pg_name (i := 5) sc_places_of.nd rfl (Or.inl rfl)) (pgs_cons (pg_tup (by rfl) (pgs_cons (pg_name (i := 6) sc_places_of.nd rfl (Or.inl rfl)) (pgs_cons (pg_name (i := 7) sc_places_of.nd rfl (Or.inl rfl)) pgs_nil))) pgs_nil))) (fun _ _ _ _ _ => (pts_one (PW.pt (pw_and (pt_cmpR op_eq (pv 6) (pv 3) (nomark _)) (pw_and1 (pt_cmpR op_notN (pe_d D_extended (hr.mono (by decide)) (pa_cons (pv 2) (pa_cons (pv 4) (pa_cons (pv 7) pa_nil)))) pe_non (nomark _))))))) (fun _ _ _ _ _ => (pv 5)))))), ?_⟩
    obtain ⟨a, c, rfl, ha, hc⟩ := row_t hv
    obtain ⟨_, oxs, e0, hox, tox⟩ := rows_t ho
    cases e0
    have lo : oxs.length = os.length := by rw [tox.len, List.length_map]
    refine ⟨_, rfl, a, _, rfl, .inl (.inl ha), rfl, _, _, rfl, _, _, rfl, rfl, ?_⟩
    refine ⟨_, rfl, o, oxs, rfl, .inr ⟨.inl (.inl hox), fun D hD => ?_⟩⟩
    refine lc_it walk_et (fun i H' => Same H H' ∧ H' D = some (.lst ((((List.range i).filter (fitsG os m r))).map fun a => V.int (a : Nat)))) ⟨same_new _ hD, by rw [upd_same]; rfl⟩ (fun i H' _ z => .inl (.inl (z.1 _ _ hox))) ?_ ?_
    · rintro i x H3 H4 hi ⟨s3, d3⟩ ⟨U, x1, y, rfl, hU, rfl, e1, hy⟩
      obtain rfl : V.int (i : Nat) = x1 := Option.some.inj e1
      have hy2 : oxs[i]? = some y := hy
      obtain ⟨q0, hq0, ty⟩ := tox.at hy2
      rw [List.getElem?_map] at hq0
      obtain ⟨q, hq, rfl⟩ := Option.map_eq_some_iff.mp hq0
      obtain ⟨qa, qc, rfl, hqa, hqc⟩ := row_t ty
      have eN := rowN_at hq
      have s4 : Same H (upd H3 U (.tup [V.int (i : Nat), .ref qa])) := s3.trans (same_new _ hU)
      have d4 := same_new (.tup [V.int (i : Nat), .ref qa]) hU _ _ d3
      have u4 : (upd H3 U (.tup [V.int (i : Nat), .ref qa])) U = some (.tup [V.int (i : Nat), .ref qa]) := upd_same
      generalize upd H3 U (.tup [V.int (i : Nat), .ref qa]) = H4 at *
      have ll : ((((List.range i).filter (fitsG os m r))).map fun a => V.int (a : Nat)).length < sizeLine := by
        have z := List.length_filter_le (fitsG os m r) (List.range i)
        rw [List.length_range] at z
        rw [List.length_map]
        exact Nat.lt_of_le_of_lt (show _ ≤ 10 by omega) (by decide)
      have no : fitsG os m r i = false → ∀ H', Same H4 H' → Same H H' ∧ H' D = some (.lst ((((List.range (i + 1)).filter (fitsG os m r))).map fun a => V.int (a : Nat))) := fun e H' s' => ⟨s4.trans s', by
        rw [List.range_succ, List.filter_append, List.filter_cons_of_neg (by rw [e]; exact Bool.false_ne_true), List.filter_nil, List.append_nil]
        exact s' _ _ d4⟩
      refine ⟨U, _, rfl, .inl (.inl u4), rfl, _, _, rfl, _, _, rfl, qa, _, rfl, .inl (.inl (s4 _ _ hqa)), rfl, _, _, rfl, _, _, rfl, rfl, rfl, rfl, ?_⟩
      refine ⟨_, rfl, _, rfl, rfl, _, rfl, ifd (fun e => ?_) fun n => ?_⟩
      · have et : q.1 = r.1 := V.str.inj e
        refine ⟨_, rfl, _, rfl, _, rfl, im, c, qc, m, r.2, q.2, rfl, s4 _ _ him, s4 _ _ hc, s4 _ _ hqc, lm, l4, fun en H5 s5 => ?_, fun m2 es p2 H5 np s5 hp2 => ?_⟩
        · refine ⟨rfl, _, rfl, iteF (no ?_ H5 s5)⟩
          unfold fitsG
          rw [eN, en]
          exact Bool.and_false _
        · refine ⟨rfl, _, rfl, iteT ⟨_, rfl, _, s5 _ _ d4, ll, same_put (s4.trans s5) _ hD, ?_⟩⟩
          have yes : fitsG os m r i = true := by
            unfold fitsG
            rw [eN, es, et, decide_eq_true rfl]
            rfl
          rw [upd_same, List.range_succ, List.filter_append, List.filter_cons_of_pos yes, List.filter_nil, List.map_append]
          rfl
      · refine iteF (no ?_ H4 (Same.refl _))
        unfold fitsG
        rw [eN, decide_eq_false fun z => n (congrArg V.str z)]
        rfl
    rintro H3 ⟨s3, d3⟩
    rw [lo] at d3
    exact k D H3 hD s3 d3
end
end Fm

/-! ## K32MC -/
set_option Elab.async false
set_option maxRecDepth 100000
set_option maxHeartbeats 4000000
namespace Fm
open PySem L2
def natV (l : List Nat) : List V := l.map fun a => V.int (a : Nat)
theorem natV_ints (l : List Nat) : natV l = (l.map fun a => ((a : Nat) : Int)).map V.int := by
  unfold natV
  rw [List.map_map]
  rfl
theorem eqv_nil (ns : List Int) : PyData.eqv (.list (ns.map PyData.int)) (.list []) = decide (ns = []) := by
  cases ns <;> rfl
theorem firstG_app {f : Nat → Option (List Nat)} : ∀ {a b : List Nat}, (∀ x ∈ a, f x = none) → firstG f (a ++ b) = firstG f b
  | [], _, _ => rfl
  | x :: a, b, h => by
    show (match f x with | some y => some (x :: y) | none => firstG f (a ++ b)) = _
    rw [h x List.mem_cons_self]
    exact firstG_app fun y m => h y (List.mem_cons_of_mem _ m)
theorem firstG_at {f : Nat → Option (List Nat)} {xs : List Nat} {i a : Nat} {l : List Nat} (h : xs[i]? = some a) (n : ∀ x ∈ xs.take i, f x = none) (e : f a = some l) : firstG f xs = some (a :: l) := by
  have e2 : xs = xs.take i ++ a :: xs.drop (i + 1) := by
    obtain ⟨_, q⟩ := List.getElem?_eq_some_iff.mp h
    rw [← q, List.getElem_cons_drop, List.take_append_drop]
  rw [e2, firstG_app n]
  show (match f a with | some y => some (a :: y) | none => firstG f (xs.drop (i + 1))) = _
  rw [e]
theorem firstG_no {f : Nat → Option (List Nat)} {xs : List Nat} (n : ∀ x ∈ xs, f x = none) : firstG f xs = none := by
  have z := firstG_app (b := []) n
  rw [List.append_nil] at z
  exact z
theorem TpAll.uncons {H : Hp} {d : PyData} {ds : List PyData} {vs : List V} (h : TpAll H vs (d :: ds)) : ∃ x xs, vs = x :: xs ∧ Tp H x d ∧ TpAll H xs ds := by
  cases h with
  | cons h1 h2 => exact ⟨_, _, rfl, h1, h2⟩
section
variable {P : Program} {w : World} {K : PySem.W.Frag} {mg : Str → Option Value} {base : Heap} {CS CP CQ : Addr}
def spMapFrom (n : Nat) : Sp := fun vs H Q _ => ∃ (v : V) (o im : Addr) (rs os : List PRow) (m : IG), vs = [v, .ref o, .ref im] ∧ Tp H v (rowsD false rs) ∧ Tp H (.ref o) (rowsD false os) ∧ H im = some (.dK (imG m)) ∧ rs.length < n ∧ m.length + 4 * rs.length ≤ 100 ∧ (∀ r ∈ rs, r.2.length ≤ 4) ∧ os.length ≤ 6 ∧
  (mapG rs os m = none → ∀ H', Same H H' → Q .non H') ∧ ∀ l, mapG rs os m = some l → ∀ p H', H p = none → Same H H' → H' p = some (.tup (natV l)) → Q (.ref p) H'
abbrev s_map_from : Stmt := topS 30
abbrev sc_map_fromN : List Str := ["rows", "others", "images", "row", "at", "rest"]
abbrev ps_map_from : List Str := ["rows", "others", "images"]
theorem sc_map_from : FnScope sc_map_fromN ps_map_from (defScope s_map_from) := ⟨rfl, rfl, rfl, by decide +kernel, rfl, by decide +kernel, by decide +kernel⟩
theorem ok_map_from {f : Addr} {fd : FuncData} (F : Fun K "map_from" "map_from" s_map_from f fd) (T : Txt K mg CS) (D_extended : Df P w K mg base "extended" 2 ps_extended spExtG) (D_places_of : Df P w K mg base "places_of" 3 ps_places_of spPlaces) (hm : mg "map_from" = some (.ref f)) (hb : Binds K fd ps_map_from []) : ∀ n, FnOk P w K mg base CX0 (4 + n) f fd ps_map_from (spMapFrom n)
  | 0 => fn_no fun vs H Q E h => by
    obtain ⟨_, _, _, _, _, _, _, _, _, _, hd, _⟩ := h
    exact absurd hd (Nat.not_lt_zero _)
  | n + 1 => by
    have D_map_from : Df P w K mg base "map_from" (4 + n) ps_map_from (spMapFrom n) := ⟨f, fd, ok_map_from F T D_extended D_places_of hm hb n, hm, F.kp, hb⟩
    refine F.ok sc_map_from (fun vs H Q E h => ?_) (fun cdv A outer s H vs Q E hr h => ?_)
    · obtain ⟨_, _, _, _, _, _, rfl, _⟩ := h
      rfl
    · obtain ⟨v, o, im, rs, os, m, rfl, hv, ho, him, ln, lm, l4, o6, kN, kS⟩ := h
      refine ⟨_, (pss_cons (ps_if (pt_cmpR op_eq (pe_callB call_len_seq (by rfl) T.n_len (by decide +kernel) (pa_cons (pv 0) pa_nil)) pe_int (nomark _))
    (pss_one (ps_ret (pe_tup pa_nil)))
    pss_nil)
  (pss_cons (ps_if (pt_not (pt_val (pe_callB (cr_all (by rfl)) (by rfl) T.n_all (by decide +kernel) (pa_cons (pe_lc (own := [("row", 3)]) (g := gName 3) (tt := tYes) (by rfl) sc_map_from.nd (pi_tup (pv 0)) (blkOk_by (own := [("row", 3)]) (N := sc_map_fromN) (sc := defScope s_map_from) (by decide +kernel)) (fun _ _ _ _ _ => pg_name (i := 3) sc_map_from.nd rfl (Or.inl rfl)) (fun _ _ _ _ _ => pts_nil) (fun _ _ _ _ _ => (pe_cmpR (opK_neD (K := K) hr.units) (pe_d D_places_of (hr.mono (show 3 ≤ 4 + n by omega)) (pa_cons (pv 3) (pa_cons (pv 1) (pa_cons (pv 2) pa_nil)))) (pe_lst pa_nil) (nomark _)))) pa_nil))))
    (pss_one (ps_ret pe_non))
    pss_nil)
  (pss_cons (ps_for PassesOwn.never rfl (pi_list (pe_d D_places_of (hr.mono (show 3 ≤ 4 + n by omega)) (pa_cons (pe_ix ix_tup (pv 0) pe_int (fun _ _ => rfl)) (pa_cons (pv 1) (pa_cons (pv 2) pa_nil))))) (pg_name (i := 4) sc_map_from.nd rfl (Or.inl rfl))
    (pss_cons (ps_set (i := 5) sc_map_from.nd rfl (Or.inl rfl) (pe_d D_map_from hr (pa_cons (pe_slice sl_tupA (pv 0) (po_some pe_int) po_none) (pa_cons (pv 1) (pa_cons (pe_d D_extended (hr.mono (show 2 ≤ 4 + n by omega)) (pa_cons (pv 2) (pa_cons (pe_ix ix_tup (pe_ix ix_tup (pv 0) pe_int (fun _ _ => rfl)) pe_int (fun _ _ => rfl)) (pa_cons (pe_ix ix_tup (pe_ix ix_tup (pv 1) (pv 4) (fun _ _ => rfl)) pe_int (fun _ _ => rfl)) pa_nil)))) pa_nil)))))
    (pss_one (ps_if (pt_cmpR op_notN (pv 5) pe_non (nomark _))
      (pss_one (ps_ret (pe_tup (pa_cons (pv 4) (StX.pa_star (pv 5) pa_nil)))))
      pss_nil))))
  (pss_one (ps_ret pe_non))))), ?_⟩
      obtain ⟨a, xs, rfl, ha, ta⟩ := rows_t hv
      obtain ⟨_, oxs, e0, hox, tox⟩ := rows_t ho
      cases e0
      have lx : xs.length = rs.length := by rw [ta.len, List.length_map]
      refine ⟨_, rfl, a, _, rfl, .inr (.inl (.inl ha)), rfl, _, rfl, ifd (fun e => ?_) fun ne => ?_⟩
      · have e0 : rs = [] := List.length_eq_zero_iff.mp (by have := V.int.inj e; omega)
        subst e0
        exact ⟨(by show 0 ≤ sizeLine; decide), fun t ht => kS [] rfl t _ ht (same_new _ ht) upd_same⟩
      cases rs with
      | nil => exact absurd (by rw [lx]; rfl) ne
      | cons r rs =>
        have ln2 : rs.length < n := by rw [List.length_cons] at ln; omega
        rw [List.length_cons] at lm
        -- all rows can go somewhere
        refine ⟨_, rfl, a, rfl, ⟨_, .inl (.inl ha)⟩, fun D hD => ?_⟩
        refine lc_it walk_tup (fun i H' => Same H H' ∧ H' D = some (.lst (((r :: rs).take i).map fun q => V.bl (decide (placesG q os m ≠ []))))) ⟨same_new _ hD, by rw [upd_same]; rfl⟩ (fun i H' _ z => .inl (.inl (z.1 _ _ ha))) ?_ ?_
        · rintro i x H3 H4 hi ⟨s3, d3⟩ ⟨rfl, hx⟩
          obtain ⟨y, hy, ty⟩ := ta.at hx
          rw [List.getElem?_map] at hy
          obtain ⟨q, hq, rfl⟩ := Option.map_eq_some_iff.mp hy
          refine ⟨rfl, _, rfl, _, rfl, _, rfl, x, o, im, q, os, m, rfl, ty.same s3, ho.same s3, s3 _ _ him, by omega, l4 q (List.mem_of_getElem? hq), o6, fun p H5 np s5 hp => ⟨(by show 0 ≤ sizeLine; decide), fun e he => ?_⟩⟩
          have s6 : Same H5 (upd H5 e (.lst [])) := same_new _ he
          have t1 : Tp (upd H5 e (.lst [])) (.ref p) (.list (((placesG q os m).map fun a => ((a : Nat) : Int)).map PyData.int)) := .lst (s6 _ _ (show H5 p = some (.lst (natV (placesG q os m))) from hp)) (by rw [natV_ints]; exact TpAll.ints _)
          have t2 : Tp (upd H5 e (.lst [])) (.ref e) (.list []) := .lst upd_same .nil
          refine ⟨_, _, t1.plain (K := K) (noDs_all fun d m => by
            obtain ⟨k, _, rfl⟩ := List.mem_map.mp m
            rfl), t2.plain (K := K) rfl, shaped_ints _, by decide, _, s6 _ _ (s5 _ _ d3), take_lt _ (by rw [List.length_cons]; omega), same_put ((s3.trans s5).trans s6) _ hD, ?_⟩
          have eb : (!decide ((placesG q os m).map (fun a => ((a : Nat) : Int)) = [])) = decide (placesG q os m ≠ []) := by
            rw [Bool.eq_iff_iff, Bool.not_eq_true', decide_eq_false_iff_not, decide_eq_true_eq, ne_eq, List.map_eq_nil_iff]
          rw [upd_same, map_take _ hq, eqv_nil, eb]
        rintro H3 ⟨s3, d3⟩
        rw [lx, List.take_length, bl_map (f := fun q => decide (placesG q os m ≠ []))] at d3
        refine ⟨D, _, rfl, .inl (.inl d3), _, rfl, ?_⟩
        have ea : (((r :: rs).map fun q => decide (placesG q os m ≠ [])).all id) = (r :: rs).all (fun q => decide (placesG q os m ≠ [])) := List.all_map
        rw [ea]
        by_cases hA : (r :: rs).all (fun q => decide (placesG q os m ≠ [])) = true
        · rw [hA]
          refine iteF ?_
          have eM : mapG (r :: rs) os m = firstG (fun a => (extG m r.2 (rowN os a).2).bind (mapG rs os)) (placesG r os m) := if_pos hA
          rw [eM] at kN kS
          obtain ⟨x0, xs0, rfl, t0, ta0⟩ := ta.uncons
          have a3 := s3 _ _ ha
          have hat : atI (x0 :: xs0) 0 = some x0 := atI_nat (j := 0) rfl
          refine ⟨_, rfl, a, _, 0, _, rfl, rfl, .inl (.inl a3), hat, _, rfl, _, rfl, x0, o, im, r, os, m, rfl, t0.same s3, ho.same s3, s3 _ _ him, by omega, l4 r List.mem_cons_self, o6, fun p H4 np s34 hp => ?_⟩
          have s4 := s3.trans s34
          refine ⟨p, rfl, ⟨_, .inl (.inl hp)⟩, ?_⟩
          refine for_it walk_list (fun i σ' H' => ∃ v3 v4 v5, σ' = [some (.ref a), some (.ref o), some (.ref im), v3, v4, v5] ∧ Same H4 H' ∧ ∀ b ∈ (placesG r os m).take i, (extG m r.2 (rowN os b).2).bind (mapG rs os) = none)
            ⟨_, _, _, rfl, Same.refl _, fun b mb => by cases mb⟩ (fun i σ' H' _ z => by obtain ⟨_, _, _, _, z, _⟩ := z; exact .inl (.inl (z _ _ hp))) ?_ ?_
          · rintro i y σ' H5 H6 hi ⟨v3, v4, v5, rfl, s45, no⟩ ⟨rfl, hy⟩
            rw [List.getElem?_map] at hy
            obtain ⟨b, hb0, rfl⟩ := Option.map_eq_some_iff.mp hy
            obtain ⟨lb, eb, sb⟩ := placesG_mem.mp (List.mem_of_getElem? hb0)
            have s6 := s4.trans s45
            obtain ⟨ra, c, rfl, hra, hc⟩ := row_t t0
            have hob : os[b]? = some os[b] := List.getElem?_eq_getElem lb
            have eN := rowN_at hob
            generalize os[b] = q at hob eN
            obtain ⟨y0, hy0, ty0⟩ := tox.to (i := b) (d := prowD false q) (by rw [List.getElem?_map, hob]; rfl)
            obtain ⟨qa, qc, rfl, hqa, hqc⟩ := row_t ty0
            refine ⟨_, rfl, _, rfl, a, _, rfl, .inl (.inl (s6 _ _ ha)), (fun w => ?_), fun _ sl hsl => ?_⟩
            · have w1 := w.1
              rw [show (1 : Int) = ((1 : Nat) : Int) from rfl, HT.sIx_nat, List.length_cons] at w1
              omega
            have ec : cutV (.ref ra :: xs0) (some (1 : Int)) none = xs0 := cutV_from (.ref ra :: xs0) 1 (by rw [List.length_cons]; omega)
            have s7 : Same H (upd H6 sl (.tup xs0)) := s6.trans (same_new _ hsl)
            have sl7 : (upd H6 sl (.tup xs0)) sl = some (.tup xs0) := upd_same
            have s47 : Same H4 (upd H6 sl (.tup xs0)) := s45.trans (same_new _ hsl)
            rw [ec]
            generalize upd H6 sl (.tup xs0) = H7 at *
            refine ⟨_, rfl, _, rfl, _, rfl, a, _, 0, _, rfl, rfl, .inl (.inl (s7 _ _ ha)), hat, ra, _, 1, _, rfl, rfl, .inl (.inl (s7 _ _ hra)), rfl, _, rfl, _, rfl, o, oxs, _, _, rfl, rfl, .inl (.inl (s7 _ _ hox)), atI_nat hy0, qa, _, 1, _, rfl, rfl, .inl (.inl (s7 _ _ hqa)), rfl, im, c, qc, m, r.2, q.2, rfl, s7 _ _ him, s7 _ _ hc, s7 _ _ hqc, by omega, l4 r List.mem_cons_self, fun en H8 s8 => ?_, fun m2 es p2 H8 np2 s78 hp2 => ?_⟩
            · rw [eN, en] at sb
              cases sb
            have s8 := s7.trans s78
            have lm2 := extG_len es
            have l4r := l4 r List.mem_cons_self
            have eF : (extG m r.2 (rowN os b).2).bind (mapG rs os) = mapG rs os m2 := by
              rw [eN, es]
              rfl
            refine ⟨.ref sl, o, p2, rs, os, m2, rfl, .tup (s78 _ _ sl7) (ta0.same s8), ho.same s8, hp2, ln2, by omega, fun r2 mr2 => l4 r2 (List.mem_cons_of_mem _ mr2), o6, fun e9 H9 s9 => ?_, fun l e9 p3 H9 np3 s9 hp3 => ?_⟩
            · refine ⟨_, rfl, rfl, _, rfl, iteF ⟨_, _, _, rfl, (s47.trans s78).trans s9, fun b2 mb2 => ?_⟩⟩
              rw [List.take_add_one, hb0] at mb2
              rcases List.mem_append.mp mb2 with mb2 | mb2
              · exact no b2 mb2
              · have e2 : b2 = b := by simpa using mb2
                rw [e2, eF, e9]
            · have ll := (chain_len (mapG_sound e9)).1
              refine ⟨_, rfl, rfl, _, rfl, iteT ⟨_, rfl, _, rfl, p3, _, rfl, .inl (.inl (.inl hp3)), ?_, fun tp htp => ?_⟩⟩
              · rw [List.length_cons, List.append_nil]
                unfold natV
                rw [List.length_map]
                exact Nat.le_trans (show _ ≤ 200 by omega) (by decide)
              · refine kS (b :: l) (firstG_at hb0 no (eF.trans e9)) tp _ ((s8.trans s9).free htp) ((s8.trans s9).trans (same_new _ htp)) ?_
                rw [upd_same, List.append_nil]
                rfl
          · rintro σ' H5 ⟨v3, v4, v5, rfl, s45, no⟩
            rw [List.length_map, List.take_length] at no
            exact kN (firstG_no no) _ (s4.trans s45)
        · have hA2 : (r :: rs).all (fun q => decide (placesG q os m ≠ [])) = false := by
            cases z : (r :: rs).all (fun q => decide (placesG q os m ≠ [])) with
            | true => exact absurd z hA
            | false => rfl
          rw [hA2]
          exact iteT (kN (if_neg hA) _ s3)
end
end Fm

/-! ## FmTry -/
set_option Elab.async false
set_option maxRecDepth 100000
set_option maxHeartbeats 4000000
/-! A try whose clauses are of both kinds, 'except A' and 'except B as e'. -/
namespace Fm
open PySem PySem.Spec PyProof.Rows L2
/-- an error that has been caught and waits for its clause -/
structure Caught (X : Cx) (pins : List (Addr × Obj)) (σ : L2.St) (H : Hp) (a : Addr) (B : Heap) (cls : Value) (d : Option Addr) (sI s : Shared) : Prop where
  inv : Inv X pins σ H sI
  nb : ∀ b o, sI.heap.get? b = some o → b ∉ frs X.stack → B.get? b = some o
  up : sI.heap.UpToSlots s.heap
  fl : HandSPX.FlyingZ B (X.env :: X.outer) a (Zc cls d) s.heap
  na : H a = none
  os : s.os = sI.os
  ag : AllBare s.gens
/-- what a clause does, told of the slots ahead of it and behind it -/
def tAs (i : Nat) (ts : Addr → Value → Option Addr → TS) : Addr → Value → Option Addr → TS := fun a cls d D σ H =>
  ts a cls d ⟨fun σ' => D.nx (σ'.set i none), D.rt, fun σ' => D.bk (σ'.set i none), fun σ' => D.ct (σ'.set i none)⟩ (σ.set i (some (.ref a))) H
inductive Clauses (X : Cx) : List ExceptHandler → List (Value × (Addr → Value → Option Addr → TS)) → Prop
  | nil : Clauses X [] []
  | bare {x : Str} {c : Value} {ts : Addr → Value → Option Addr → TS} {b₀ : Stmt} {bs : List Stmt} {np p : Pos} {hs : List ExceptHandler} {l : List (Value × (Addr → Value → Option Addr → TS))} (hc : Names X x c)
      (su : ∀ (a : Addr) (oe : Obj) (cls : Value) (d : Option Addr) (pn : List (Addr × Obj)), Zc cls d oe → (∃ vs, oe.data = .fields vs) → PSs (X.suite a ((a, oe) :: pn)) (b₀ :: bs) (ts a cls d)) (r : Clauses X hs l) :
      Clauses X (.ExceptHandler (some (.Name x np)) none (b₀ :: bs) p :: hs) ((c, ts) :: l)
  | named {x n : Str} {i : Nat} {c : Value} {ts : Addr → Value → Option Addr → TS} {b₀ : Stmt} {bs : List Stmt} {np p : Pos} {hs : List ExceptHandler} {l : List (Value × (Addr → Value → Option Addr → TS))} (hN : X.N.Nodup) (hi : X.N[i]? = some n) (hk : X.env.kindOf n = some .local) (hc : Names X x c)
      (su : ∀ (a : Addr) (oe : Obj) (cls : Value) (d : Option Addr) (pn : List (Addr × Obj)), Zc cls d oe → (∃ vs, oe.data = .fields vs) → PSs (X.suite a ((a, oe) :: pn)) (b₀ :: bs) (ts a cls d)) (r : Clauses X hs l) :
      Clauses X (.ExceptHandler (some (.Name x np)) (some n) (b₀ :: bs) p :: hs) ((c, tAs i ts) :: l)
section
variable {X : Cx} {pins : List (Addr × Obj)} {σ : L2.St} {H : Hp} {a : Addr} {B : Heap} {cls c : Value} {d : Option Addr} {sI s : Shared} {x n : Str} {np : Pos} {W : WX} {D : Ends}
theorem Caught.now (C : Caught X pins σ H a B cls d sI s) : Inv X pins σ H s := C.inv.landed C.nb C.fl.1 C.up C.os C.ag
theorem Caught.free (C : Caught X pins σ H a B cls d sI s) {o : Obj} {vs : Array Value} (e : s.heap.get? a = some o) (hd : o.data = .fields vs) : a ∉ frs (X.env :: X.outer) := fun hm => by
  obtain ⟨_, o2, e2, no⟩ := C.fl.2.2.1.mem hm
  rw [e] at e2
  cases e2
  exact no _ hd
theorem Caught.suite (C : Caught X pins σ H a B cls d sI s) (hf : X.env.frame = some X.env.locals) : ∃ oe, Zc cls d oe ∧ (∃ vs, oe.data = .fields vs) ∧ s.heap.get? a = some oe ∧ Inv (X.suite a ((a, oe) :: (X.pn ++ pins))) [] σ H s := by
  obtain ⟨oe, vs, e, z, hd⟩ := C.fl.there
  have no := C.free e hd
  refine ⟨oe, z, ⟨vs, hd⟩, e, C.now.suite e hd C.na (fun q => no ?_) fun q => ?_⟩
  · exact List.mem_filterMap.mpr ⟨X.env, List.mem_cons_self, by rw [hf, q]⟩
  · obtain ⟨v, hv, e2⟩ := List.mem_filterMap.mp q
    exact no (List.mem_filterMap.mpr ⟨v, List.mem_cons_of_mem _ hv, e2⟩)
/-- the clause's class is looked at -/
theorem Caught.asks (C : Caught X pins σ H a B cls d sI s) (hf : X.env.frame = some X.env.locals) (hc : Names X x c) {b : Bool} (hb : PySem.W.exmOne X.K cls c = some b) {Q : Bool → Shared → Prop} {E E' : Value → Shared → Prop} (q : Q b s) :
    wpAny (model X.prog X.w) (X.A.mark (some (.ref a))) (eval (.Name x np) X.env) (fun u s1 => wpAny (model X.prog X.w) (X.A.mark (some (.ref a))) (excMatches (.ref a) u) Q E' s1) E s := by
  obtain ⟨oe, z, _, e, S⟩ := C.suite hf
  have ty : PySem.W.Looks (model X.prog X.w) s.heap (typeOf (.ref a)) cls := fun A' Q' E2 s2 k h => wpAny_typeOf_ref (k _ _ e) (by rw [z.1]; exact h)
  have m := PySem.W.exm_one (M := model X.prog X.w) C.now.kIn ty hb
  obtain ⟨g, nd, h | ⟨h1, h2, h3⟩⟩ := hc
  · exact ld_glob (X := X.suite a ((a, oe) :: (X.pn ++ pins))) S g h (m.here q) nd
  · exact ld_blt (X := X.suite a ((a, oe) :: (X.pn ++ pins))) S g h1 h2 (m.here q) h3 nd
/-- the error lands in its suite -/
theorem Caught.lands (C : Caught X pins σ H a B cls d sI s) {M : Model} {A : Around} {E : Value → Shared → Prop} {Q : Unit → Shared → Prop} (h : ∀ s', Caught X pins σ H a B cls d sI s' → Q () s') : wpAny M A (setFlight (.ref a) none) Q E s :=
  HandSPX.lands_againZ C.fl fun h' f u => h _ ⟨C.inv, C.nb, C.up.trans u, f, C.na, C.os, C.ag⟩
/-- no clause takes it: it goes on -/
theorem Caught.goes (C : Caught X pins σ H a B cls d sI s) (hst : X.stack = X.env :: X.outer) (hf : X.env.frame = some X.env.locals) (tk : Takes X W) (w : W cls d σ H) : wpAny (model X.prog X.w) X.A (handleBy (.ref a) X.env []) (SP X pins D) X.xe s := by
  obtain ⟨_, _, _, oe, vs, t, _, _, e, _, hd, h1, _⟩ := id C.fl
  refine wpAny_handleBy_nil ?_
  unfold PySem.passOn
  refine wpAny_bind (wpAny_field e hd h1 ?_)
  rw [if_neg (show (Value.ref t == Value.none) ≠ true from by simp), hf]
  have last : wpAny (model X.prog X.w) X.A (setFlight (.ref a) (some X.env.locals)) (fun _ s2 => wpAny (model X.prog X.w) X.A (throw (.ref a) : Sem Flow) (SP X pins D) X.xe s2) X.xe s :=
    HandSPX.setFlight_upZ C.fl fun h' f u => wpAny_throw (tk _ _ ⟨a, B, sI, pins, σ, H, cls, d, rfl, C.inv, C.nb, C.up.trans u, .inr (.inr (by rw [hst]; exact f)), C.na, C.os, C.ag, w⟩)
  first
    | exact wpAny_bind (wpAny_pure (wpAny_bind last))
    | exact wpAny_bind last
/-- behind a suite the rest stands as it would without it -/
theorem leave {a : Addr} {q : Addr × Obj} {f : Flow} {s : Shared} (ok : X.Ok) (h : SP (X.suite a (q :: (X.pn ++ pins))) [] D f s) : SP X pins D f s := by
  cases f with
  | next => exact let ⟨_, _, I, z⟩ := h; ⟨_, _, I.unsuite ok, z⟩
  | brk => exact let ⟨_, _, I, z⟩ := h; ⟨_, _, I.unsuite ok, z⟩
  | cont => exact let ⟨_, _, I, z⟩ := h; ⟨_, _, I.unsuite ok, z⟩
  | ret u => exact let ⟨_, _, _, I, r, z⟩ := h; ⟨_, _, _, I.unsuite ok, r, z⟩
theorem Caught.handled {hs : List ExceptHandler} {l : List (Value × (Addr → Value → Option Addr → TS))} (k : Clauses X hs l) (hst : X.stack = X.env :: X.outer) (hf : X.env.frame = some X.env.locals) (tk : Takes X W) :
    ∀ {s : Shared}, Caught X pins σ H a B cls d sI s → wMany X.K W D l cls d σ H → wpAny (model X.prog X.w) X.A (handleBy (.ref a) X.env hs) (SP X pins D) X.xe s := by
  induction k with
  | nil => exact fun C w => C.goes hst hf tk w
  | bare hc su r ih =>
    intro s C ⟨b, hb, yes, no⟩
    refine wpAny_handleBy_cons (codeAny_handlers_test (C.asks hf hc hb ?_)) (fun z => nomatch z)
    cases b with
    | false => exact ih C (no rfl)
    | true =>
      refine codeAny_handlers_suite (C.lands fun s2 C2 => ?_)
      obtain ⟨oe, z, f, _, S⟩ := C2.suite hf
      exact wpAny_mono ((su a oe cls d (X.pn ++ pins) z f).run [] _ _ H _ S (yes rfl a C.na)) (fun g s3 h => by
        have q := leave C.inv.ok h
        cases g <;> exact q) fun _ _ z => z.elim
  | @named x n i c ts b₀ bs np p hs l hN hi hk hc su r ih =>
    intro s C ⟨b, hb, yes, no⟩
    refine wpAny_handleBy_cons (codeAny_handlers_test (C.asks hf hc hb ?_)) (fun z => nomatch z)
    cases b with
    | false => exact ih C (no rfl)
    | true =>
      refine codeAny_handlers_suite_as (C.lands fun s2 C2 => ?_)
      obtain ⟨oe, z, f, _, S⟩ := C2.suite hf
      refine store_ok (X := X.suite a ((a, oe) :: (X.pn ++ pins))) (v := .ref a) S hN hi (.inl hk) rfl (fun s3 S3 => ?_) (.inr hk)
      refine wpAny_mono ((su a oe cls d (X.pn ++ pins) z f).run [] s3 _ H _ S3 (yes rfl a C.na)) (fun g s4 h => ?_) fun _ _ z => z.elim
      have q := leave C.inv.ok h
      cases g with
      | next => exact let ⟨_, _, I, z⟩ := q; gone_ok I hN hi hk fun s5 J => ⟨_, _, J, z⟩
      | brk => exact let ⟨_, _, I, z⟩ := q; gone_ok I hN hi hk fun s5 J => ⟨_, _, J, z⟩
      | cont => exact let ⟨_, _, I, z⟩ := q; gone_ok I hN hi hk fun s5 J => ⟨_, _, J, z⟩
      | ret u => exact let ⟨_, _, _, I, r, z⟩ := q; gone_ok I hN hi hk fun s5 J => ⟨_, _, _, J, r, z⟩
end
section
variable {X : Cx} {body : List Stmt} {h₀ : ExceptHandler} {hs : List ExceptHandler} {l : List (Value × (Addr → Value → Option Addr → TS))} {pos : Pos} {tb : WX → TS} {W : WX}
/-- try with clauses of both kinds, no else, no finally -/
theorem ps_tryM (hst : X.stack = X.env :: X.outer) (hf : X.env.frame = some X.env.locals) (tk : Takes X W)
    (hb : ∀ (W : WX) (pn : List (Addr × Obj)) (xe : Value → Shared → Prop), Takes (X.tr pn xe) W → PassesOwn (model X.prog X.w) X.A X.env xe → PSs (X.tr pn xe) body (tb W))
    (k : Clauses X (h₀ :: hs) l) : PS X (.Try body (h₀ :: hs) [] [] pos) (fun D σ H => tb (wMany X.K W D l) D σ H) := by
  refine ⟨fun pins s σ H D I h => wpAny_Try_except (wpAny_mono ((hb (wMany X.K W D l) (X.pn ++ pins) _ (fun u s' y => ?_) PassesOwn.looking).run [] s σ H D (I.toTry _) h) (fun f s1 q => ?_) (fun e s1 z => z))⟩
  · obtain ⟨a, B, sI, pins', σ', H', cls, d, rfl, J, nb, up, sky, na, os, ag, w⟩ := y
    have fr : X.A.frames = some (X.env :: X.outer) := by rw [I.ok.frames, hst]
    refine Sky.land Zc.steady fr hf (by rw [← hst]; exact sky) fun h3 fl u => ?_
    exact Caught.handled k hst hf tk (s := { s' with heap := h3 }) ⟨J.ofTry I.ok, nb, up.trans u, fl, na, os, ag⟩ w
  · cases f with
    | next => exact let ⟨_, _, J, z⟩ := q; wpAny_execs_nil ⟨_, _, J.ofTry I.ok, z⟩
    | brk => exact let ⟨_, _, J, z⟩ := q; ⟨_, _, J.ofTry I.ok, z⟩
    | cont => exact let ⟨_, _, J, z⟩ := q; ⟨_, _, J.ofTry I.ok, z⟩
    | ret u => exact let ⟨_, _, _, J, r, z⟩ := q; ⟨_, _, _, J.ofTry I.ok, r, z⟩
end
end Fm

/-! ## K32MD -/
set_option Elab.async false
set_option maxRecDepth 100000
set_option maxHeartbeats 4000000
namespace Fm
open PySem L2
structure Tx8 (K : PySem.W.Frag) (CP : Addr) : Prop where
  p_cls : PySem.W.findIn K (.ref CP) "__class__" = some (some (.builtin "object.__class__"))
  p_mro : PySem.W.mroIn K CP (.type "object") = some true
  p_isi : ∀ n ∈ ["NoneType", "bool", "int", "str", "list", "tuple", "dict"], PySem.W.kitOne K (.type n) (.ref CP) = some false
def ErrAt1 (H : Hp) (E : Option Addr → Hp → Prop) : Prop := ∀ d H', Same H H' → H d = none → H' d = some (.xd [("at", .int (-1))]) → E (some d) H'
theorem tyD_mem (d : PyData) : tyD d ∈ ["NoneType", "bool", "int", "str", "list", "tuple", "dict"] := by cases d <;> simp [tyD]
section
variable {P : Program} {w : World} {K : PySem.W.Frag} {mg : Str → Option Value} {base : Heap} {CS CP CQ : Addr}
def spChkP (CP CQ : Addr) : Sp := fun vs H Q E => ∃ (v : V), vs = [v] ∧ ((∃ (p dx : Addr) (fs : List (Str × V)), v = .ref p ∧ H p = some (.ins CP dx fs) ∧ Q .non H) ∨ ∃ d : PyData, Tp H v d ∧ ErrAt1 H (E (.ref CQ)))
abbrev s_check_pattern : Stmt := topS 26
abbrev sc_check_patternN : List Str := ["thing"]
abbrev ps_check_pattern : List Str := ["thing"]
theorem sc_check_pattern : FnScope sc_check_patternN ps_check_pattern (defScope s_check_pattern) := ⟨rfl, rfl, rfl, by decide +kernel, rfl, by decide +kernel, by decide +kernel⟩
theorem ok_check_pattern {f : Addr} {fd : FuncData} (F : Fun K "check_pattern" "check_pattern" s_check_pattern f fd) (T : Txt K mg CS) (T5 : Tx5 K mg CP) (T8 : Tx8 K CP) (X_BadPattern : Xf P w K mg base "BadPattern" CQ "at") : FnOk P w K mg base (L2.CX P w) 3 f fd ps_check_pattern (spChkP CP CQ) := by
  refine F.okX sc_check_pattern (fun vs H Q E h => ?_) (fun cdv A outer s H vs Q E hr h => ?_)
  · obtain ⟨_, rfl, _⟩ := h
    rfl
  · obtain ⟨v, rfl, h⟩ := h
    refine ⟨_, (pss_one (ps_if (pt_not (pt_val (pe_callB call_isi (by rfl) T.n_isinstance (by decide +kernel) (pa_cons (pv 0) (pa_cons (pe_glob (v := .ref CP) rfl T5.g_Pattern rfl) pa_nil)))))
    (pss_one (ps_rG X_BadPattern (hr.mono (by decide)) (takes_of rfl rfl rfl rfl) (pe_un un_neg pe_int)))
    pss_nil)), ?_⟩
    rcases h with ⟨p, dx, fs, rfl, hp, k⟩ | ⟨d, hd, k⟩
    · exact ⟨_, rfl, _, _, _, _, _, rfl, .own _, .base (.ins hp T5.clP T8.p_cls T.c_get T.c_tak T8.p_mro), kit_same CP, _, rfl, iteF k⟩
    · exact ⟨_, rfl, _, _, _, _, _, rfl, .own _, hd.ty (K := K), T8.p_isi _ (tyD_mem d), _, rfl, iteT ⟨_, rfl, (by show 1 ≤ 1000; decide), fun a ha => init_read (v := .int (-1)) (Q := fun cls d H' => E cls d H') X_BadPattern.oex.1 X_BadPattern.oex.2 ha fun d hd => k d _ (same_new _ hd) hd upd_same⟩⟩
/-- what a map is told as -/
def MapQ (rs : List PRow) (gk : List Key) (os : List PRow) (ok : List Key) (H : Hp) (Q : VK) : Prop := (groupMap rs gk os ok = none → ∀ H', Same H H' → Q .non H') ∧ ∀ l, groupMap rs gk os ok = some l → ∀ p H', H p = none → Same H H' → H' p = some (.tup (natV l)) → Q (.ref p) H'
def spMapBetween : Sp := fun vs H Q _ => ∃ (v g o og : V) (rs os : List PRow) (gk ok : List Key), vs = [v, g, o, og] ∧ Tp H v (rowsD false rs) ∧ Tp H g (.tuple (gk.map kD)) ∧ Tp H o (rowsD false os) ∧ Tp H og (.tuple (ok.map kD)) ∧ rs.length ≤ 6 ∧ (∀ r ∈ rs, r.2.length ≤ 4) ∧ os.length ≤ 6 ∧ gk.length ≤ 3 ∧ MapQ rs gk os ok H Q
abbrev s_map_between : Stmt := topS 29
abbrev sc_map_betweenN : List Str := ["rows", "group", "others", "other_group", "images"]
abbrev ps_map_between : List Str := ["rows", "group", "others", "other_group"]
theorem sc_map_between : FnScope sc_map_betweenN ps_map_between (defScope s_map_between) := ⟨rfl, rfl, rfl, by decide +kernel, rfl, by decide +kernel, by decide +kernel⟩
theorem ok_map_between {f : Addr} {fd : FuncData} (F : Fun K "map_between" "map_between" s_map_between f fd) (T : Txt K mg CS) (D_extended : Df P w K mg base "extended" 2 ps_extended spExtG) (D_map_from : ∀ n, Df P w K mg base "map_from" (4 + n) ps_map_from (spMapFrom n)) : FnOk P w K mg base CX0 12 f fd ps_map_between spMapBetween := by
  refine F.ok sc_map_between (fun vs H Q E h => ?_) (fun cdv A outer s H vs Q E hr h => ?_)
  · obtain ⟨_, _, _, _, _, _, _, _, rfl, _⟩ := h
    rfl
  · obtain ⟨v, g, o, og, rs, os, gk, ok, rfl, hv, hg, ho, hog, l6, l4, o6, l3, kN, kS⟩ := h
    refine ⟨_, (pss_cons (ps_set (i := 4) sc_map_between.nd rfl (Or.inl rfl) (pe_d D_extended (hr.mono (by decide)) (pa_cons pe_dnewK (pa_cons (pv 1) (pa_cons (pv 3) pa_nil)))))
  (pss_one (ps_ret (pe_ifExp (pt_cmpR op_isN (pv 4) pe_non (nomark _)) pe_non (pe_d (D_map_from 7) (hr.mono (by decide)) (pa_cons (pv 0) (pa_cons (pv 2) (pa_cons (pv 4) pa_nil)))))))), ?_⟩
    obtain ⟨ga, rfl, hga⟩ := keysT hg
    obtain ⟨oa, rfl, hoa⟩ := keysT hog
    obtain ⟨o1, oxs, rfl, hox, tox⟩ := rows_t ho
    refine fun e he => ?_
    have s1 : Same H (upd H e (.dK [])) := same_new _ he
    have e1 : (upd H e (.dK [])) e = some (.dK (imG [])) := upd_same
    generalize upd H e (.dK []) = H1 at *
    refine ⟨_, rfl, _, rfl, e, ga, oa, [], gk, ok, rfl, e1, s1 _ _ hga, s1 _ _ hoa, by show 0 ≤ 100; omega, by omega, fun en H2 s2 => ?_, fun m2 es p2 H2 np2 s2 hp2 => ?_⟩
    · refine ⟨_, rfl, rfl, _, rfl, iteT (kN ?_ _ (s1.trans s2))⟩
      unfold groupMap
      rw [en]
      rfl
    · have s02 := s1.trans s2
      have lm2 := extG_len es
      have z : ([] : IG).length = 0 := rfl
      have eM : groupMap rs gk os ok = mapG rs os m2 := by
        unfold groupMap
        rw [es]
        rfl
      rw [eM] at kN kS
      exact ⟨_, rfl, rfl, _, rfl, iteF ⟨_, rfl, _, rfl, _, rfl, v, o1, p2, rs, os, m2, rfl, hv.same s02, ho.same s02, hp2, by omega, by omega, l4, o6, fun e9 H9 s9 => kN e9 _ (s02.trans s9), fun l e9 p H9 np s9 hp => kS l e9 p _ (s02.free np) (s02.trans s9) hp⟩⟩
def spGroupMap (CP CQ : Addr) : Sp := fun vs H Q E => (∃ (p q : Addr) (rs os : List PRow) (gk ok : List Key) (us vs2 : List Str) (pw qw : List (Str × Int)), vs = [.ref p, .ref q] ∧ PatAt CP H p rs gk us pw ∧ PatAt CP H q os ok vs2 qw ∧ RsFew rs ∧ RsFew os ∧ gk.length ≤ 3 ∧ MapQ rs gk os ok H Q) ∨
  (∃ (v u : V) (d : PyData), vs = [v, u] ∧ Tp H v d ∧ ErrAt1 H (E (.ref CQ))) ∨ ∃ (p : Addr) (rs : List PRow) (gk : List Key) (us : List Str) (pw : List (Str × Int)) (u : V) (d : PyData), vs = [.ref p, u] ∧ PatAt CP H p rs gk us pw ∧ Tp H u d ∧ ErrAt1 H (E (.ref CQ))
abbrev s_group_map : Stmt := topS 28
abbrev sc_group_mapN : List Str := ["one", "other"]
abbrev ps_group_map : List Str := ["one", "other"]
theorem sc_group_map : FnScope sc_group_mapN ps_group_map (defScope s_group_map) := ⟨rfl, rfl, rfl, by decide +kernel, rfl, by decide +kernel, by decide +kernel⟩
theorem ok_group_map {f : Addr} {fd : FuncData} (F : Fun K "group_map" "group_map" s_group_map f fd) (T : Txt K mg CS) (T5 : Tx5 K mg CP) (D_check_pattern : DfX P w K mg base "check_pattern" 3 ps_check_pattern (spChkP CP CQ)) (D_map_between : Df P w K mg base "map_between" 12 ps_map_between spMapBetween) :
    FnOk P w K mg base (L2.CX P w) 14 f fd ps_group_map (spGroupMap CP CQ) := by
  refine F.okX sc_group_map (fun vs H Q E h => ?_) (fun cdv A outer s H vs Q E hr h => ?_)
  · rcases h with ⟨_, _, _, _, _, _, _, _, _, _, rfl, _⟩ | ⟨_, _, _, rfl, _⟩ | ⟨_, _, _, _, _, _, _, rfl, _⟩ <;> rfl
  rcases h with ⟨p, q, rs, os, gk, ok, us, vs2, pw, qw, rfl, pA, qA, few, few2, l3, kN, kS⟩ | ⟨v, u, d, rfl, hv, k⟩ | ⟨p, rs, gk, us, pw, u, d, rfl, pA, hu, k⟩
  · refine ⟨_, (pss_cons (ps_expr (pe_dE D_check_pattern (hr.mono (by decide)) (takes_of rfl rfl rfl rfl) (pa_cons (pv 0) pa_nil)))
  (pss_cons (ps_expr (pe_dE D_check_pattern (hr.mono (by decide)) (takes_of rfl rfl rfl rfl) (pa_cons (pv 1) pa_nil)))
  (pss_one (ps_ret (pe_d D_map_between (hr.mono (by decide)) (pa_cons (pe_fld (pv 0) rfl) (pa_cons (pe_fld (pv 0) rfl) (pa_cons (pe_fld (pv 1) rfl) (pa_cons (pe_fld (pv 1) rfl) pa_nil))))))))), ?_⟩
    obtain ⟨dp, v1, v2, v3, hp, t1, t2, _⟩ := id pA
    obtain ⟨dq, u1, u2, u3, hq, w1, w2, _⟩ := id qA
    refine ⟨_, rfl, .ref p, rfl, .inl ⟨p, dp, _, rfl, hp, ?_⟩⟩
    refine ⟨_, rfl, .ref q, rfl, .inl ⟨q, dq, _, rfl, hq, ?_⟩⟩
    exact ⟨_, rfl, p, CP, dp, _, _, rfl, hp, T5.clP, T5.nR, rfl, _, rfl, p, CP, dp, _, _, rfl, hp, T5.clP, T5.nG, rfl, _, rfl, q, CP, dq, _, _, rfl, hq, T5.clP, T5.nR, rfl, _, rfl, q, CP, dq, _, _, rfl, hq, T5.clP, T5.nG, rfl,
      v1, v2, u1, u2, rs, os, gk, ok, rfl, t1.same cut_sub, t2.same cut_sub, w1.same cut_sub, w2.same cut_sub, few.1, few.2, few2.1, l3, kN, kS⟩
  · refine ⟨_, (pss_cons (ps_expr (pe_dE D_check_pattern (hr.mono (by decide)) (takes_of rfl rfl rfl rfl) (pa_cons (pv 0) pa_nil)))
  (pss_cons (ps_expr (pe_dE D_check_pattern (hr.mono (by decide)) (takes_of rfl rfl rfl rfl) (pa_cons (pv 1) pa_nil)))
  (pss_one (ps_ret (pe_d D_map_between (hr.mono (by decide)) (pa_cons (pe_fld (pv 0) rfl) (pa_cons (pe_fld (pv 0) rfl) (pa_cons (pe_fld (pv 1) rfl) (pa_cons (pe_fld (pv 1) rfl) pa_nil))))))))), ?_⟩
    exact ⟨_, rfl, v, rfl, .inr ⟨d, hv, k⟩⟩
  · refine ⟨_, (pss_cons (ps_expr (pe_dE D_check_pattern (hr.mono (by decide)) (takes_of rfl rfl rfl rfl) (pa_cons (pv 0) pa_nil)))
  (pss_cons (ps_expr (pe_dE D_check_pattern (hr.mono (by decide)) (takes_of rfl rfl rfl rfl) (pa_cons (pv 1) pa_nil)))
  (pss_one (ps_ret (pe_d D_map_between (hr.mono (by decide)) (pa_cons (pe_fld (pv 0) rfl) (pa_cons (pe_fld (pv 0) rfl) (pa_cons (pe_fld (pv 1) rfl) (pa_cons (pe_fld (pv 1) rfl) pa_nil))))))))), ?_⟩
    obtain ⟨dp, v1, v2, v3, hp, _⟩ := id pA
    exact ⟨_, rfl, .ref p, rfl, .inl ⟨p, dp, _, rfl, hp, _, rfl, u, rfl, .inr ⟨d, hu, k⟩⟩⟩
end
end Fm

/-! ## K32ME -/
set_option Elab.async false
set_option maxRecDepth 100000
set_option maxHeartbeats 4000000
namespace Fm
open PySem L2
theorem sentL_app {xs ys : List (Key × Key)} : ∀ {m : IG}, sentL m (xs ++ ys) = (sentL m xs).bind fun m2 => sentL m2 ys := by
  induction xs with
  | nil => intro m; rfl
  | cons q xs ih =>
    intro m
    show (match sent1 m q.1 q.2 with | some m2 => sentL m2 (xs ++ ys) | none => none) = (match sent1 m q.1 q.2 with | some m2 => sentL m2 xs | none => none).bind fun m2 => sentL m2 ys
    cases f : sent1 m q.1 q.2 with
    | none => rfl
    | some m2 => exact ih
theorem sentL_take {m m1 : IG} {r : List (Key × Key)} {i : Nat} {p : Key × Key} (h : r[i]? = some p) (h1 : sentL m (r.take i) = some m1) : sentL m (r.take (i + 1)) = sent1 m1 p.1 p.2 := by
  rw [List.take_add_one, h, sentL_app, h1]
  show (match sent1 m1 p.1 p.2 with | some m2 => sentL m2 [] | none => none) = _
  cases sent1 m1 p.1 p.2 <;> rfl
theorem sentL_none {m : IG} {r : List (Key × Key)} {n : Nat} (h : sentL m (r.take n) = none) : sentL m r = none := by
  conv => lhs; rw [← List.take_append_drop n r]
  rw [sentL_app, h]
  rfl
theorem sent1_len {m m2 : IG} {k i : Key} (h : sent1 m k i = some m2) : m2.length ≤ m.length + 1 := by
  cases k with
  | inl z =>
    unfold sent1 at h
    by_cases c : (Sum.inl z : Key) = i
    · simp only [if_pos c] at h
      cases h
      omega
    · simp only [if_neg c] at h
      cases h
  | inr s =>
    unfold sent1 at h
    cases e : getG m (.inr s) with
    | some j =>
      simp only [e] at h
      by_cases q : j = i
      · simp only [if_pos q] at h
        cases h
        omega
      · simp only [if_neg q] at h
        cases h
    | none =>
      simp only [e] at h
      cases h
      rw [List.length_append]
      exact Nat.le_refl _
theorem sentL_len : ∀ {r : List (Key × Key)} {m m2 : IG}, sentL m r = some m2 → m2.length ≤ m.length + r.length
  | [], m, m2, h => by
    cases h
    exact Nat.le_refl _
  | p :: r, m, m2, h => by
    unfold sentL at h
    cases e : sent1 m p.1 p.2 with
    | none => rw [e] at h; cases h
    | some m3 =>
      rw [e] at h
      have z := sent1_len e
      have y := sentL_len h
      rw [List.length_cons]
      omega
theorem sentG_len {m m2 : IG} {ks is : List Key} (h : sentG m ks is = some m2) : m2.length ≤ m.length + ks.length := by
  unfold sentG at h
  by_cases c : ks.length = is.length
  · rw [if_pos c] at h
    have z := sentL_len h
    rw [List.length_zip] at z
    omega
  · rw [if_neg c] at h
    cases h
section
variable {P : Program} {w : World} {K : PySem.W.Frag} {mg : Str → Option Value} {base : Heap} {CS CP CQ : Addr}
def spSent : Sp := fun vs H Q _ => ∃ (kn sy ta : Addr) (n : IG) (ks ts : List Key), vs = [.ref kn, .ref sy, .ref ta] ∧ H kn = some (.dK (imG n)) ∧ H sy = some (.tup (ks.map kV)) ∧ H ta = some (.tup (ts.map kV)) ∧ n.length ≤ 100 ∧ ks.length ≤ 4 ∧
  (sentG n ks ts = none → ∀ H', Same H H' → Q .non H') ∧ ∀ n2, sentG n ks ts = some n2 → ∀ p H', H p = none → Same H H' → H' p = some (.dK (imG n2)) → Q (.ref p) H'
abbrev s_l_sent : Stmt := topS 44
abbrev sc_l_sentN : List Str := ["_law_known", "_law_symbols", "_law_targets", "_law_wider", "_law_k"]
abbrev ps_l_sent : List Str := ["_law_known", "_law_symbols", "_law_targets"]
theorem sc_l_sent : FnScope sc_l_sentN ps_l_sent (defScope s_l_sent) := ⟨rfl, rfl, rfl, by decide +kernel, rfl, by decide +kernel, by decide +kernel⟩
theorem ok_l_sent {f : Addr} {fd : FuncData} (F : Fun K "_law_sent" "_law_sent" s_l_sent f fd) (T : Txt K mg CS) : FnOk P w K mg base CX0 1 f fd ps_l_sent spSent := by
  refine F.ok sc_l_sent (fun vs H Q E h => ?_) (fun cdv A outer s H vs Q E hr h => ?_)
  · obtain ⟨_, _, _, _, _, _, rfl, _⟩ := h
    rfl
  · obtain ⟨kn, sy, ta, n, ks, ts, rfl, hkn, hsy, hta, ln, l4, kN, kS⟩ := h
    refine ⟨_, (pss_cons (ps_if (pt_cmpR op_ne (pe_callB call_len_seq (by rfl) T.n_len (by decide +kernel) (pa_cons (pv 1) pa_nil)) (pe_callB call_len_seq (by rfl) T.n_len (by decide +kernel) (pa_cons (pv 2) pa_nil)) (nomark _))
    (pss_one (ps_ret pe_non))
    pss_nil)
  (pss_cons (ps_set (i := 3) sc_l_sent.nd rfl (Or.inl rfl) (pe_callTy call_dictD (by rfl) T.n_dict (by decide +kernel) (pa_cons (pv 0) pa_nil)))
  (pss_cons (ps_for PassesOwn.never rfl (pi_range1 (by rfl) T.n_range (pa_cons (pe_callB call_len_seq (by rfl) T.n_len (by decide +kernel) (pa_cons (pv 1) pa_nil)) pa_nil)) (pg_name (i := 4) sc_l_sent.nd rfl (Or.inl rfl))
    (pss_one (ps_if (pt_not (pt_val (pe_callB call_isi (by rfl) T.n_isinstance (by decide +kernel) (pa_cons (pe_ix ix_tup (pv 1) (pv 4) (fun _ _ => rfl)) (pa_cons (pe_bltn (v := .ty "str") (by rfl) T.n_str (by decide +kernel) rfl) pa_nil)))))
      (pss_one (ps_if (pt_cmpR op_ne (pe_ix ix_tup (pv 1) (pv 4) (fun _ _ => rfl)) (pe_ix ix_tup (pv 2) (pv 4) (fun _ _ => rfl)) (nomark _))
        (pss_one (ps_ret pe_non))
        pss_nil))
      (pss_one (ps_if (pt_cmp (pc_din (Nat.lt_of_le_of_lt (Nat.add_le_add_left (by decide) _) hr.units) (pe_ix ix_tup (pv 1) (pv 4) (fun _ _ => rfl)) (pv 3)) (by rfl))
        (pss_one (ps_if (pt_cmpR op_ne (pe_dget (Nat.lt_of_le_of_lt (Nat.add_le_add_left (by decide) _) hr.units) (pv 3) (pe_ix ix_tup (pv 1) (pv 4) (fun _ _ => rfl)) (fun _ _ => rfl)) (pe_ix ix_tup (pv 2) (pv 4) (fun _ _ => rfl)) (nomark _))
          (pss_one (ps_ret pe_non))
          pss_nil))
        (pss_one (ps_asg (pe_ix ix_tup (pv 2) (pv 4) (fun _ _ => rfl)) (pg_sub (pv 3) (pe_ix ix_tup (pv 1) (pv 4) (fun _ _ => rfl)) (set_dict (Nat.lt_of_le_of_lt (Nat.add_le_add_left (by decide) _) hr.units))))))))))
  (pss_one (ps_ret (pv 3)))))), ?_⟩
    refine ⟨_, rfl, sy, _, rfl, .inr (.inl (.inl hsy)), _, rfl, ta, _, rfl, .inr (.inl (.inl hta)), rfl, _, rfl, ?_⟩
    refine ifn (fun h1 => ?_) fun h1 => ?_
    · refine kN ?_ _ (Same.refl _)
      unfold sentG
      rw [if_neg]
      intro z
      rw [List.length_map, List.length_map, z] at h1
      exact h1 rfl
    have el : ks.length = ts.length := by
      have z := V.int.inj h1
      rw [List.length_map, List.length_map] at z
      omega
    have eK : sentG n ks ts = sentL n (ks.zip ts) := if_pos el
    rw [eK] at kN kS
    have lz : (ks.zip ts).length = ks.length := by rw [List.length_zip]; omega
    refine ⟨_, rfl, kn, _, rfl, .inl hkn, fun D hD => ?_⟩
    have s1 : Same H (upd H D (.dK (imG n))) := same_new _ hD
    have d1 : (upd H D (.dK (imG n))) D = some (.dK (imG n)) := upd_same
    generalize upd H D (.dK (imG n)) = H1 at *
    refine ⟨_, rfl, sy, _, rfl, .inr (.inl (.inl (s1 _ _ hsy))), ((ks.map kV).length : Int), rfl, by omega, by rw [List.length_map]; omega, ?_⟩
    refine for_range (lo := 0) (n := ((ks.map kV).length : Int).toNat) (fun j σ H' => ∃ (m2 : IG) (v4 : Option V), σ = [some (.ref kn), some (.ref sy), some (.ref ta), some (.ref D), v4] ∧ Same H H' ∧ H' D = some (.dK (imG m2)) ∧ m2.length ≤ 100 + j ∧ sentL n ((ks.zip ts).take j) = some m2)
      ⟨n, _, rfl, s1, d1, by omega, rfl⟩ ?_ ?_
    · rintro j σ H4 hj ⟨m2, v4, rfl, s4, k4, lm2, ex⟩
      rw [List.length_map] at hj
      rw [Int.zero_add]
      have hj2 : j < ks.length := by omega
      have hk : ks[j]? = some ks[j] := List.getElem?_eq_getElem hj2
      generalize ks[j] = kk at hk
      have hjr : j < ts.length := by omega
      have hz : ts[j]? = some ts[j] := List.getElem?_eq_getElem hjr
      generalize ts[j] = z at hz
      have hzp : (ks.zip ts)[j]? = some (kk, z) := by
        rw [List.getElem?_zip_eq_some]
        exact ⟨hk, hz⟩
      have est := sentL_take hzp ex
      have hks : (ks.map kV)[j]? = some (kV kk) := by rw [List.getElem?_map, hk]; rfl
      have hrz : (ts.map kV)[j]? = some (kV z) := by rw [List.getElem?_map, hz]; rfl
      have hsy4 := s4 _ _ hsy
      have hta4 := s4 _ _ hta
      have bad : sent1 m2 kk z = none → ∀ H', Same H H' → Q .non H' := fun en => kN (sentL_none (n := j + 1) (by rw [est]; exact en))
      cases kk with
      | inl y =>
        refine ⟨_, rfl, _, rfl, sy, _, _, _, rfl, rfl, .inl (.inl hsy4), atI_nat hks, _, _, _, _, _, rfl, .ty _, (Tp.int y).ty (K := K), kit_ty (kit_d (by simp)), _, rfl, iteT ?_⟩
        refine ⟨_, rfl, _, rfl, sy, _, _, _, rfl, rfl, .inl (.inl hsy4), atI_nat hks, _, rfl, _, rfl, ta, _, _, _, rfl, rfl, .inl (.inl hta4), atI_nat hrz, scal_key (.inl y) z, _, rfl, ifn (fun n => ?_) fun e => ?_⟩
        · refine bad ?_ _ s4
          show (if (Sum.inl y : Key) = z then some m2 else none) = none
          rw [if_neg fun q => n (congrArg kV q)]
        · refine ⟨m2, _, rfl, s4, k4, by omega, ?_⟩
          rw [est]
          show (if (Sum.inl y : Key) = z then some m2 else none) = some m2
          rw [if_pos (kV_inj e)]
      | inr s =>
        refine ⟨_, rfl, _, rfl, sy, _, _, _, rfl, rfl, .inl (.inl hsy4), atI_nat hks, _, _, _, _, _, rfl, .ty _, (Tp.str s).ty (K := K), kit_ty (kit_d (by simp)), _, rfl, iteF ?_⟩
        refine ⟨_, rfl, _, rfl, sy, _, _, _, rfl, rfl, .inl (.inl hsy4), atI_nat hks, _, rfl, D, valV (imG m2) (Sum.inr s), rfl, .inl ⟨_, Sum.inr s, .inl k4, rfl, rfl⟩, _, rfl, ?_⟩
        have es : sent1 m2 (.inr s) z = match getG m2 (.inr s) with
          | some j => if j = z then some m2 else none
          | none => some (m2 ++ [(.inr s, z)]) := rfl
        rw [imG_val]
        cases eg : getG m2 (.inr s) with
        | some j0 =>
          rw [eg] at es
          have g4 : DGet H4 D (kV (Sum.inr s)) (some (kV j0)) := .inl ⟨_, Sum.inr s, .inl k4, rfl, by rw [imG_val, eg]; rfl⟩
          refine iteT ⟨_, rfl, _, rfl, _, rfl, sy, _, _, _, rfl, rfl, .inl (.inl hsy4), atI_nat hks, D, _, rfl, g4, _, rfl, _, rfl, ta, _, _, _, rfl, rfl, .inl (.inl hta4), atI_nat hrz, scal_key j0 z, _, rfl, ifn (fun n => ?_) fun e => ?_⟩
          · refine bad ?_ _ s4
            rw [es]
            show (if j0 = z then some m2 else none) = none
            rw [if_neg fun q => n (congrArg kV q)]
          · refine ⟨m2, _, rfl, s4, k4, by omega, ?_⟩
            rw [est]
            dsimp only
            rw [es]
            show (if j0 = z then some m2 else none) = some m2
            rw [if_pos (kV_inj e)]
        | none =>
          rw [eg] at es
          refine iteF ⟨_, rfl, _, rfl, ta, _, _, _, rfl, rfl, .inl (.inl hta4), atI_nat hrz, _, rfl, _, rfl, _, rfl, sy, _, _, _, rfl, rfl, .inl (.inl hsy4), atI_nat hks, D, _, rfl, .inl ⟨_, Sum.inr s, k4, rfl, (by unfold imG; rw [List.length_map]; exact Nat.lt_of_le_of_lt (show m2.length ≤ 200 by omega) (by decide)), rfl⟩, ?_⟩
          refine ⟨m2 ++ [(.inr s, z)], _, rfl, same_put s4 _ hD, by rw [upd_same, imG_put eg], by rw [List.length_append]; show m2.length + 1 ≤ _; omega, ?_⟩
          rw [est]
          exact es
    · rintro σ H4 ⟨m2, v4, rfl, s4, k4, lm2, ex⟩
      rw [List.length_map] at ex
      rw [List.take_of_length_le (by rw [lz]; omega)] at ex
      exact ⟨_, rfl, kS m2 ex D H4 hD s4 k4⟩
end
end Fm

/-! ## K32MF -/
set_option Elab.async false
set_option maxRecDepth 100000
set_option maxHeartbeats 4000000
namespace Fm
open PySem L2
theorem overG_app {os : List PRow} {b : List PRow} : ∀ {a : List PRow} {l : List Nat} {n : IG}, overG os n (a ++ b) l = (overG os n a l).bind fun m => overG os m b (l.drop a.length)
  | [], l, n => rfl
  | r :: a, l, n => by
    show (if r.1 = (rowN os (l.headD 0)).1 then (sentG n r.2 (rowN os (l.headD 0)).2).bind fun n2 => overG os n2 (a ++ b) l.tail else none) = ((if r.1 = (rowN os (l.headD 0)).1 then (sentG n r.2 (rowN os (l.headD 0)).2).bind fun n2 => overG os n2 a l.tail else none) : Option IG).bind _
    by_cases c : r.1 = (rowN os (l.headD 0)).1
    · rw [if_pos c, if_pos c]
      cases sentG n r.2 (rowN os (l.headD 0)).2 with
      | none => rfl
      | some m =>
        show overG os m (a ++ b) l.tail = (overG os m a l.tail).bind _
        rw [overG_app]
        have e : l.tail.drop a.length = l.drop (r :: a).length := by
          rw [List.length_cons, List.drop_tail]
        rw [e]
    · rw [if_neg c, if_neg c]
      rfl
theorem overG_one {os : List PRow} {r : PRow} {l : List Nat} {n : IG} : overG os n [r] l = if r.1 = (rowN os (l.headD 0)).1 then sentG n r.2 (rowN os (l.headD 0)).2 else none := by
  show (if r.1 = (rowN os (l.headD 0)).1 then (sentG n r.2 (rowN os (l.headD 0)).2).bind fun n2 => overG os n2 [] l.tail else none) = _
  by_cases c : r.1 = (rowN os (l.headD 0)).1
  · rw [if_pos c, if_pos c]
    cases sentG n r.2 (rowN os (l.headD 0)).2 <;> rfl
  · rw [if_neg c, if_neg c]
theorem overG_len {os : List PRow} : ∀ {rs : List PRow} {l : List Nat} {n m : IG}, (∀ r ∈ rs, r.2.length ≤ 4) → overG os n rs l = some m → m.length ≤ n.length + 4 * rs.length
  | [], l, n, m, _, h => by
    cases h
    exact Nat.le_refl _
  | r :: rs, l, n, m, hr, h => by
    have h2 : (if r.1 = (rowN os (l.headD 0)).1 then (sentG n r.2 (rowN os (l.headD 0)).2).bind fun n2 => overG os n2 rs l.tail else none) = some m := h
    by_cases c : r.1 = (rowN os (l.headD 0)).1
    · rw [if_pos c] at h2
      obtain ⟨m1, e1, e2⟩ := Option.bind_eq_some_iff.mp h2
      have a := sentG_len e1
      have b := overG_len (fun q mq => hr q (List.mem_cons_of_mem _ mq)) e2
      have d := hr r List.mem_cons_self
      rw [List.length_cons]
      omega
    · rw [if_neg c] at h2
      cases h2
def preG (rs : List PRow) (gk : List Key) (os : List PRow) (ok : List Key) (l : List Nat) (i : Nat) : Option IG := mapOver (rs.take i) gk os ok l
theorem preG_next {rs : List PRow} {gk : List Key} {os : List PRow} {ok : List Key} {l : List Nat} {i a : Nat} {r : PRow} (h : rs[i]? = some r) (hl : l[i]? = some a) : preG rs gk os ok l (i + 1) = (preG rs gk os ok l i).bind fun m => if r.1 = (rowN os a).1 then sentG m r.2 (rowN os a).2 else none := by
  unfold preG mapOver
  rw [List.take_add_one, h]
  cases sentG [] gk ok with
  | none => rfl
  | some n =>
    show overG os n (rs.take i ++ [r]) l = (overG os n (rs.take i) l).bind _
    rw [overG_app]
    have hi : i < rs.length := (List.getElem?_eq_some_iff.mp h).1
    have li : (rs.take i).length = i := by rw [List.length_take]; omega
    have hd : (l.drop i).headD 0 = a := by
      obtain ⟨hl2, e⟩ := List.getElem?_eq_some_iff.mp hl
      rw [← List.getElem_cons_drop hl2, e]
      rfl
    rw [li]
    congr 1
    funext m
    rw [overG_one, hd]
theorem preG_none {rs : List PRow} {gk : List Key} {os : List PRow} {ok : List Key} {l : List Nat} {i : Nat} (h : preG rs gk os ok l i = none) : mapOver rs gk os ok l = none := by
  unfold preG mapOver at h
  unfold mapOver
  cases e : sentG [] gk ok with
  | none => rfl
  | some n =>
    rw [e] at h
    show overG os n rs l = none
    have h2 : overG os n (rs.take i) l = none := h
    conv => lhs; rw [← List.take_append_drop i rs]
    rw [overG_app, h2]
    rfl
/-- what is known so far -/
def KnG (o : Option IG) (u : V) (H : Hp) : Prop := (o = none ∧ u = .non) ∨ ∃ m p, o = some m ∧ u = .ref p ∧ H p = some (.dK (imG m))
section
variable {P : Program} {w : World} {K : PySem.W.Frag} {mg : Str → Option Value} {base : Heap} {CS CP CQ : Addr}
def spOver : Sp := fun vs H Q _ => ∃ (v g o og : V) (ia : Addr) (rs os : List PRow) (gk ok : List Key) (l : List Nat), vs = [v, g, o, og, .ref ia] ∧ Tp H v (rowsD false rs) ∧ Tp H g (.tuple (gk.map kD)) ∧ Tp H o (rowsD false os) ∧ Tp H og (.tuple (ok.map kD)) ∧ Rw H ia (natV l) ∧ l.length = rs.length ∧ (∀ a ∈ l, a < os.length) ∧ rs.length ≤ 6 ∧ (∀ r ∈ rs, r.2.length ≤ 4) ∧ os.length ≤ 6 ∧ gk.length ≤ 3 ∧
  (mapOver rs gk os ok l = none → ∀ H', Same H H' → Q .non H') ∧ ∀ m, mapOver rs gk os ok l = some m → ∀ p H', Same H H' → H' p = some (.dK (imG m)) → Q (.ref p) H'
abbrev s_l_map_over : Stmt := topS 45
abbrev sc_l_map_overN : List Str := ["_law_rows", "_law_group", "_law_other_rows", "_law_other_group", "_law_indexes", "_law_known", "_law_k"]
abbrev ps_l_map_over : List Str := ["_law_rows", "_law_group", "_law_other_rows", "_law_other_group", "_law_indexes"]
theorem sc_l_map_over : FnScope sc_l_map_overN ps_l_map_over (defScope s_l_map_over) := ⟨rfl, rfl, rfl, by decide +kernel, rfl, by decide +kernel, by decide +kernel⟩
theorem ok_l_map_over {f : Addr} {fd : FuncData} (F : Fun K "_law_map_over" "_law_map_over" s_l_map_over f fd) (T : Txt K mg CS) (D_l_sent : Df P w K mg base "_law_sent" 1 ps_l_sent spSent) : FnOk P w K mg base CX0 2 f fd ps_l_map_over spOver := by
  refine F.ok sc_l_map_over (fun vs H Q E h => ?_) (fun cdv A outer s H vs Q E hr h => ?_)
  · obtain ⟨_, _, _, _, _, _, _, _, _, _, rfl, _⟩ := h
    rfl
  · obtain ⟨v, g, o, og, ia, rs, os, gk, ok, l, rfl, hv, hg, ho, hog, hia, ll, la, l6, l4, o6, l3, kN, kS⟩ := h
    refine ⟨_, (Evl.pss_cut (ps_set (i := 5) sc_l_map_over.nd rfl (Or.inl rfl) (pe_d D_l_sent (hr.mono (by decide)) (pa_cons pe_dnewK (pa_cons (pv 1) (pa_cons (pv 3) pa_nil)))))
  (pss_cons (ps_for PassesOwn.never rfl (pi_range1 (by rfl) T.n_range (pa_cons (pe_callB call_len_seq (by rfl) T.n_len (by decide +kernel) (pa_cons (pv 0) pa_nil)) pa_nil)) (pg_name (i := 6) sc_l_map_over.nd rfl (Or.inl rfl))
    (pss_cons (ps_if (PW.pt (pw_or (pt_cmpR op_isN (pv 5) pe_non (nomark _)) (pw_or1 (pt_cmpR op_ne (pe_ix ix_tup (pe_ix ix_tup (pv 0) (pv 6) (fun _ _ => rfl)) pe_int (fun _ _ => rfl)) (pe_ix ix_tup (pe_ix ix_tup (pv 2) (pe_ix (ixK_seq (K := K)) (pv 4) (pv 6) (fun _ _ => rfl)) (fun _ _ => rfl)) pe_int (fun _ _ => rfl)) (nomark _)))))
      (pss_one (ps_ret pe_non))
      pss_nil)
    (pss_one (ps_set (i := 5) sc_l_map_over.nd rfl (Or.inl rfl) (pe_d D_l_sent (hr.mono (by decide)) (pa_cons (pv 5) (pa_cons (pe_ix ix_tup (pe_ix ix_tup (pv 0) (pv 6) (fun _ _ => rfl)) pe_int (fun _ _ => rfl)) (pa_cons (pe_ix ix_tup (pe_ix ix_tup (pv 2) (pe_ix (ixK_seq (K := K)) (pv 4) (pv 6) (fun _ _ => rfl)) (fun _ _ => rfl)) pe_int (fun _ _ => rfl)) pa_nil))))))))
  (pss_one (ps_ret (pv 5))))), ?_⟩
    obtain ⟨ga, rfl, hga⟩ := keysT hg
    obtain ⟨oa, rfl, hoa⟩ := keysT hog
    obtain ⟨ra, xs, rfl, hra, tra⟩ := rows_t hv
    obtain ⟨o1, oxs, rfl, hox, tox⟩ := rows_t ho
    have lx : xs.length = rs.length := by rw [tra.len, List.length_map]
    refine ⟨fun σ' H' => ∃ u : V, σ' = [some (.ref ra), some (.ref ga), some (.ref o1), some (.ref oa), some (.ref ia), some u, none] ∧ Same H H' ∧ KnG (preG rs gk os ok l 0) u H', ?_, ?_⟩
    · refine fun e he => ?_
      have s1 : Same H (upd H e (.dK [])) := same_new _ he
      have e1 : (upd H e (.dK [])) e = some (.dK (imG [])) := upd_same
      generalize upd H e (.dK []) = H1 at *
      have e0 : preG rs gk os ok l 0 = sentG [] gk ok := by
        unfold preG mapOver
        cases sentG [] gk ok <;> rfl
      rw [e0]
      exact ⟨_, rfl, _, rfl, e, ga, oa, [], gk, ok, rfl, e1, s1 _ _ hga, s1 _ _ hoa, by show 0 ≤ 100; omega, by omega, fun en H2 s2 => ⟨.non, rfl, s1.trans s2, .inl ⟨en, rfl⟩⟩, fun m2 es p2 H2 np2 s2 hp2 => ⟨.ref p2, rfl, s1.trans s2, .inr ⟨m2, p2, es, rfl, hp2⟩⟩⟩
    rintro σ' H2 ⟨u, rfl, s2, kn⟩
    refine ⟨_, rfl, ra, _, rfl, .inr (.inl (.inl (s2 _ _ hra))), (xs.length : Int), rfl, by omega, by omega, ?_⟩
    refine for_range (lo := 0) (n := (xs.length : Int).toNat) (fun i σ H' => ∃ (u : V) (v6 : Option V), σ = [some (.ref ra), some (.ref ga), some (.ref o1), some (.ref oa), some (.ref ia), some u, v6] ∧ Same H H' ∧ KnG (preG rs gk os ok l i) u H')
      ⟨u, _, rfl, s2, kn⟩ ?_ ?_
    · rintro i σ H3 hi ⟨u, v6, rfl, s3, kn⟩
      rw [Int.zero_add]
      have hi2 : i < rs.length := by omega
      have hr : rs[i]? = some rs[i] := List.getElem?_eq_getElem hi2
      generalize rs[i] = r at hr
      have hl : l[i]? = some (l[i]'(by omega)) := List.getElem?_eq_getElem _
      generalize l[i]'(by omega) = a at hl
      have hao : a < os.length := la a (List.mem_of_getElem? hl)
      have hob : os[a]? = some os[a] := List.getElem?_eq_getElem hao
      have eN := rowN_at hob
      generalize os[a] = q at hob eN
      have nx := preG_next (gk := gk) (os := os) (ok := ok) hr hl
      rcases kn with ⟨en, rfl⟩ | ⟨m, p, es, rfl, hp⟩
      · exact ⟨_, rfl, rfl, _, rfl, iteT (kN (preG_none en) _ s3)⟩
      rw [es] at nx
      have nx2 : preG rs gk os ok l (i + 1) = if r.1 = (rowN os a).1 then sentG m r.2 (rowN os a).2 else none := nx
      rw [eN] at nx2
      obtain ⟨x0, hx0, tx0⟩ := tra.to (i := i) (d := prowD false r) (by rw [List.getElem?_map, hr]; rfl)
      obtain ⟨qa, qc, rfl, hqa, hqc⟩ := row_t tx0
      obtain ⟨y0, hy0, ty0⟩ := tox.to (i := a) (d := prowD false q) (by rw [List.getElem?_map, hob]; rfl)
      obtain ⟨pa, pc, rfl, hpa, hpc⟩ := row_t ty0
      have hia3 : Rw H3 ia (natV l) := hia.imp (fun z => s3 _ _ z) (fun z => s3 _ _ z)
      have hlv : (natV l)[i]? = some (V.int (a : Nat)) := by
        unfold natV
        rw [List.getElem?_map, hl]
        rfl
      refine ⟨_, rfl, rfl, _, rfl, iteF ⟨_, rfl, _, rfl, ra, xs, _, _, rfl, rfl, .inl (.inl (s3 _ _ hra)), atI_nat hx0, qa, _, 0, _, rfl, rfl, .inl (.inl (s3 _ _ hqa)), rfl, _, rfl, _, rfl, _, rfl, ix_sq (rw_sq hia3) (atI_nat hlv) ?_⟩⟩
      refine ⟨o1, oxs, _, _, rfl, rfl, .inl (.inl (s3 _ _ hox)), atI_nat hy0, pa, _, 0, _, rfl, rfl, .inl (.inl (s3 _ _ hpa)), rfl, rfl, _, rfl, ifn (fun n => ?_) fun e => ?_⟩
      · refine kN (preG_none (i := i + 1) ?_) _ s3
        rw [nx2, if_neg fun z => n (congrArg V.str z)]
      · rw [if_pos (V.str.inj e)] at nx2
        have lm : m.length ≤ 100 := by
          have z := es
          unfold preG mapOver at z
          obtain ⟨n0, e1, e2⟩ := Option.bind_eq_some_iff.mp z
          have a1 := sentG_len e1
          have a2 := overG_len (fun r mr => l4 r (List.mem_of_mem_take mr)) e2
          have a3 : ([] : IG).length = 0 := rfl
          rw [List.length_take] at a2
          omega
        refine ⟨_, rfl, _, rfl, _, rfl, ra, xs, _, _, rfl, rfl, .inl (.inl (s3 _ _ hra)), atI_nat hx0, qa, _, 1, _, rfl, rfl, .inl (.inl (s3 _ _ hqa)), rfl, _, rfl, _, rfl, _, rfl, ix_sq (rw_sq hia3) (atI_nat hlv) ?_⟩
        refine ⟨o1, oxs, _, _, rfl, rfl, .inl (.inl (s3 _ _ hox)), atI_nat hy0, pa, _, 1, _, rfl, rfl, .inl (.inl (s3 _ _ hpa)), rfl, p, qc, pc, m, r.2, q.2, rfl, hp, s3 _ _ hqc, s3 _ _ hpc, lm, l4 r (List.mem_of_getElem? hr), fun en H4 s4 => ?_, fun m2 es2 p2 H4 np2 s4 hp2 => ?_⟩
        · exact ⟨.non, _, rfl, s3.trans s4, .inl ⟨by rw [nx2, en], rfl⟩⟩
        · exact ⟨.ref p2, _, rfl, s3.trans s4, .inr ⟨m2, p2, by rw [nx2, es2], rfl, hp2⟩⟩
    · rintro σ H3 ⟨u, v6, rfl, s3, kn⟩
      have eP : preG rs gk os ok l ((xs.length : Int).toNat) = mapOver rs gk os ok l := by
        unfold preG
        rw [List.take_of_length_le (by omega)]
      rw [eP] at kn
      rcases kn with ⟨en, rfl⟩ | ⟨m, p, es, rfl, hp⟩
      · exact ⟨_, rfl, kN en _ s3⟩
      · exact ⟨_, rfl, kS m es p _ s3 hp⟩
end
end Fm

/-! ## K32MG -/
set_option Elab.async false
set_option maxRecDepth 100000
set_option maxHeartbeats 4000000
namespace Fm
open PySem L2
/-- t[lo:hi] of a tuple: the same or a new one -/
def rSlS : V → Option Int → Option Int → Hp → VK → Prop := fun x lo hi H Q => ∃ a xs, x = .ref a ∧ H a = some (.tup xs) ∧ ∀ p H', Same H H' → H' p = some (.tup (cutV xs lo hi)) → Q (.ref p) H'
theorem sl_tupS {X : Cx} : SlR X rSlS := by
  intro pins s σ H x v vl vu lo hi sl Q I rx hs pl pu h
  obtain ⟨a, xs, ex, hx, q⟩ := h
  refine sl_tupA pins s σ H x v vl vu lo hi sl Q I rx hs pl pu ⟨a, xs, ex, .inl (.inl hx), fun w => q a H (Same.refl _) ?_, fun _ p hp => q p _ (same_new _ hp) upd_same⟩
  have e : cutV xs lo hi = xs := by
    unfold cutV
    rw [w.1, w.2, List.drop_zero, Nat.sub_zero, List.take_length]
  rw [e]
  exact hx
def lD (l : List Nat) : PyData := .list (l.map fun a => PyData.int (a : Nat))
theorem nat_tp {H : Hp} : ∀ l : List Nat, TpAll H (natV l) (l.map fun a => PyData.int (a : Nat))
  | [] => .nil
  | a :: l => .cons (.int _) (nat_tp l)
theorem lD_inv {H : Hp} {v : V} {l : List Nat} (h : Tp H v (lD l)) : ∃ c, v = .ref c ∧ H c = some (.lst (natV l)) := by
  obtain ⟨a, xs, rfl, hx, ha⟩ := (show Tp H v (.list (l.map fun a => PyData.int (a : Nat))) from h).list
  have inv : ∀ {l : List Nat} {xs : List V}, TpAll H xs (l.map fun a => PyData.int (a : Nat)) → xs = natV l := by
    intro l
    induction l with
    | nil => intro xs h; cases h; rfl
    | cons b l ih =>
      intro xs h
      cases h with
      | cons h1 h2 => rw [h1.intI, ih h2]; rfl
  have e := inv ha
  exact ⟨a, rfl, by rw [← e]; exact hx⟩
theorem natV_app (a b : List Nat) : natV (a ++ b) = natV a ++ natV b := List.map_append
/-! ### all beginnings of a map -/
def stepG (rs : List PRow) (gk : List Key) (os : List PRow) (ok : List Key) (i n : Nat) (c : List Nat) : List (List Nat) := ((List.range n).filter fun a => (mapOver (rs.take (i + 1)) gk os ok (c ++ [a])).isSome).map fun a => c ++ [a]
structure BfsG (rs : List PRow) (gk : List Key) (os : List PRow) (ok : List Key) (i : Nat) (bg : List (List Nat)) : Prop where
  snd : ∀ l ∈ bg, l.length = i ∧ (∀ a ∈ l, a < os.length) ∧ (i = 0 ∨ (mapOver (rs.take i) gk os ok l).isSome = true)
  cmp : ∀ l, l.length = i → (∀ a ∈ l, a < os.length) → (mapOver (rs.take i) gk os ok l).isSome = true → l ∈ bg
  len : bg.length ≤ 6 ^ i
theorem stepG_len (rs : List PRow) (gk : List Key) (os : List PRow) (ok : List Key) (i n : Nat) (c : List Nat) : (stepG rs gk os ok i n c).length ≤ n := by
  unfold stepG
  rw [List.length_map]
  have z := List.length_filter_le (fun a => (mapOver (rs.take (i + 1)) gk os ok (c ++ [a])).isSome) (List.range n)
  rw [List.length_range] at z
  exact z
theorem flat_len {α β : Type} {f : α → List β} {n : Nat} (h : ∀ a, (f a).length ≤ n) : ∀ xs : List α, (xs.flatMap f).length ≤ xs.length * n
  | [] => Nat.zero_le _
  | a :: xs => by
    rw [List.flatMap_cons, List.length_append, List.length_cons, Nat.succ_mul]
    have b := flat_len h xs
    have c := h a
    omega
theorem over_take {rs : List PRow} {gk : List Key} {os : List PRow} {ok : List Key} {i a : Nat} {c : List Nat} (hc : c.length = i) (hi : i < rs.length) (h : (mapOver (rs.take (i + 1)) gk os ok (c ++ [a])).isSome = true) : (mapOver (rs.take i) gk os ok c).isSome = true := by
  have e : mapOver (rs.take i) gk os ok (c ++ [a]) = mapOver (rs.take i) gk os ok c := by
    have go : ∀ (ts : List PRow) (c : List Nat) (n : IG), ts.length ≤ c.length → overG os n ts (c ++ [a]) = overG os n ts c := by
      intro ts
      induction ts with
      | nil => exact fun c n _ => rfl
      | cons t ts ih =>
        intro c n hl
        cases c with
        | nil => rw [List.length_cons] at hl; exact absurd hl (by show ¬ ts.length + 1 ≤ 0; omega)
        | cons b c =>
          show (if t.1 = (rowN os b).1 then (sentG n t.2 (rowN os b).2).bind fun n2 => overG os n2 ts (c ++ [a]) else none) = if t.1 = (rowN os b).1 then (sentG n t.2 (rowN os b).2).bind fun n2 => overG os n2 ts c else none
          have z : (fun n2 => overG os n2 ts (c ++ [a])) = fun n2 => overG os n2 ts c := funext fun n2 => ih c n2 (by rw [List.length_cons, List.length_cons] at hl; omega)
          rw [z]
    unfold mapOver
    congr 1
    funext n
    exact go _ _ _ (by rw [List.length_take]; omega)
  cases q : mapOver (rs.take i) gk os ok (c ++ [a]) with
  | some m => rw [← e, q]; rfl
  | none =>
    have q2 : preG (rs.take (i + 1)) gk os ok (c ++ [a]) i = none := by
      unfold preG
      rw [List.take_take, Nat.min_eq_left (by omega)]
      exact q
    rw [preG_none q2] at h
    cases h
theorem BfsG.start (rs : List PRow) (gk : List Key) (os : List PRow) (ok : List Key) : BfsG rs gk os ok 0 [[]] := ⟨fun l m => by
  rw [List.mem_singleton.mp m]
  exact ⟨rfl, (fun _ m => by cases m), .inl rfl⟩, fun l h _ _ => by rw [List.length_eq_zero_iff.mp h]; exact List.mem_cons_self, Nat.le_refl _⟩
theorem BfsG.next {rs : List PRow} {gk : List Key} {os : List PRow} {ok : List Key} {i : Nat} {bg : List (List Nat)} (b : BfsG rs gk os ok i bg) (hi : i < rs.length) (o6 : os.length ≤ 6) : BfsG rs gk os ok (i + 1) (bg.flatMap (stepG rs gk os ok i os.length)) := by
  refine ⟨fun l m => ?_, fun l h1 h2 h3 => ?_, ?_⟩
  · obtain ⟨c, mc, ml⟩ := List.mem_flatMap.mp m
    obtain ⟨a, ma, rfl⟩ := List.mem_map.mp (show l ∈ ((List.range os.length).filter fun a => (mapOver (rs.take (i + 1)) gk os ok (c ++ [a])).isSome).map fun a => c ++ [a] from ml)
    obtain ⟨ma1, ma2⟩ := List.mem_filter.mp ma
    obtain ⟨q1, q2, _⟩ := b.snd c mc
    refine ⟨by rw [List.length_append, q1]; rfl, fun x mx => ?_, .inr ma2⟩
    rcases List.mem_append.mp mx with mx | mx
    · exact q2 x mx
    · rw [List.mem_singleton.mp mx]
      exact List.mem_range.mp ma1
  · obtain ⟨c, a, rfl⟩ : ∃ c a, l = c ++ [a] := by
      rcases List.eq_nil_or_concat l with e | ⟨c, a, e⟩
      · rw [e] at h1
        cases h1
      · exact ⟨c, a, by rw [e, List.concat_eq_append]⟩
    have hc : c.length = i := by
      rw [List.length_append] at h1
      exact Nat.succ.inj h1
    refine List.mem_flatMap.mpr ⟨c, b.cmp c hc (fun x mx => h2 x (List.mem_append_left _ mx)) (over_take hc hi h3), List.mem_map.mpr ⟨a, List.mem_filter.mpr ⟨List.mem_range.mpr (h2 a (List.mem_append_right _ List.mem_cons_self)), h3⟩, rfl⟩⟩
  · have z := flat_len (fun c => stepG_len rs gk os ok i os.length c) bg
    have y := b.len
    rw [Nat.pow_succ]
    exact Nat.le_trans z (Nat.mul_le_mul y o6)
theorem BfsG.stop {rs : List PRow} {gk : List Key} {os : List PRow} {ok : List Key} {bg : List (List Nat)} (b : BfsG rs gk os ok rs.length bg) : (groupMap rs gk os ok).isSome = (decide (0 < bg.length) && (sentG [] gk ok).isSome) := by
  rw [Bool.eq_iff_iff, Bool.and_eq_true, decide_eq_true_eq]
  constructor
  · intro h
    obtain ⟨l, e⟩ := Option.isSome_iff_exists.mp h
    obtain ⟨h1, h2, h3⟩ := groupMap_sound e
    have m := b.cmp l h1 h2 (by rw [List.take_length]; exact h3)
    refine ⟨List.length_pos_of_mem m, ?_⟩
    unfold mapOver at h3
    cases q : sentG [] gk ok with
    | none => rw [q] at h3; cases h3
    | some n => rfl
  · rintro ⟨h1, h2⟩
    obtain ⟨l, ml⟩ := List.exists_mem_of_length_pos h1
    obtain ⟨q1, q2, q3⟩ := b.snd l ml
    refine groupMap_comp q1 q2 ?_
    rcases q3 with q3 | q3
    · have e : rs = [] := List.length_eq_zero_iff.mp q3
      subst e
      unfold mapOver
      cases q : sentG [] gk ok with
      | none => rw [q] at h2; cases h2
      | some n => rfl
    · rw [List.take_length] at q3
      exact q3
section
variable {P : Program} {w : World} {K : PySem.W.Frag} {mg : Str → Option Value} {base : Heap} {CS CP CQ : Addr}
def spInt1 : Sp := fun vs H Q _ => ∃ (i : Int), vs = [.int i] ∧ Q (.bl true) H
abbrev s_l_integer : Stmt := topS 38
abbrev sc_l_integerN : List Str := ["_law_thing"]
abbrev ps_l_integer : List Str := ["_law_thing"]
theorem sc_l_integer : FnScope sc_l_integerN ps_l_integer (defScope s_l_integer) := ⟨rfl, rfl, rfl, by decide +kernel, rfl, by decide +kernel, by decide +kernel⟩
theorem ok_l_integer {f : Addr} {fd : FuncData} (F : Fun K "_law_integer" "_law_integer" s_l_integer f fd) (T : Txt K mg CS) : FnOk P w K mg base CX0 1 f fd ps_l_integer spInt1 := by
  refine F.ok sc_l_integer (fun vs H Q E h => ?_) (fun cdv A outer s H vs Q E hr h => ?_)
  · obtain ⟨_, rfl, _⟩ := h
    rfl
  · obtain ⟨i, rfl, k⟩ := h
    refine ⟨_, (pss_one (ps_ret (pe_and (pe_callB call_isi (by rfl) T.n_isinstance (by decide +kernel) (pa_cons (pv 0) (pa_cons (pe_bltn (v := .ty "int") (by rfl) T.n_int (by decide +kernel) rfl) pa_nil))) (pe_one (pe_not (pe_callB call_isi (by rfl) T.n_isinstance (by decide +kernel) (pa_cons (pv 0) (pa_cons (pe_bltn (v := .ty "bool") (by rfl) T.n_bool (by decide +kernel) rfl) pa_nil)))))))), ?_⟩
    have ty := (Tp.int (H := H) i).ty (K := K)
    refine ⟨_, rfl, _, _, _, _, _, rfl, .ty _, ty, kit_ty (kit_d (by simp)), _, rfl, iteT ?_⟩
    exact ⟨_, rfl, _, _, _, _, _, rfl, .ty _, ty, kit_ty (kit_d (by simp)), _, rfl, k⟩
def spInts (K : PySem.W.Frag) : Sp := fun vs H Q _ => ∃ (b : Addr) (ns : List Int), vs = [.ref b] ∧ H b = some (.tup (ns.map V.int)) ∧ Q (.bl true) H
abbrev s_l_integers : Stmt := topS 39
abbrev sc_l_integersN : List Str := ["_law_thing", "_law_part"]
abbrev ps_l_integers : List Str := ["_law_thing"]
theorem sc_l_integers : FnScope sc_l_integersN ps_l_integers (defScope s_l_integers) := ⟨rfl, rfl, rfl, by decide +kernel, rfl, by decide +kernel, by decide +kernel⟩
theorem ok_l_integers {f : Addr} {fd : FuncData} (F : Fun K "_law_integers" "_law_integers" s_l_integers f fd) (T : Txt K mg CS) (D_l_integer : Df P w K mg base "_law_integer" 1 ps_l_integer spInt1) : FnOk P w K mg base CX0 2 f fd ps_l_integers (spInts K) := by
  refine F.ok sc_l_integers (fun vs H Q E h => ?_) (fun cdv A outer s H vs Q E hr h => ?_)
  · obtain ⟨_, _, rfl, _⟩ := h
    rfl
  · obtain ⟨b, ns, rfl, hb, k⟩ := h
    refine ⟨_, (pss_cons (ps_if (pt_not (pt_val (pe_callB call_isi (by rfl) T.n_isinstance (by decide +kernel) (pa_cons (pv 0) (pa_cons (pe_bltn (v := .ty "tuple") (by rfl) T.n_tuple (by decide +kernel) rfl) pa_nil)))))
    (pss_one (ps_ret pe_bl))
    pss_nil)
  (pss_cons (ps_for PassesOwn.never rfl (pi_tup (pv 0)) (pg_name (i := 1) sc_l_integers.nd rfl (Or.inl rfl))
    (pss_one (ps_if (pt_not (pt_val (pe_d D_l_integer (hr.mono (by decide)) (pa_cons (pv 1) pa_nil))))
      (pss_one (ps_ret pe_bl))
      pss_nil)))
  (pss_one (ps_ret pe_bl)))), ?_⟩
    refine ⟨_, rfl, _, _, _, _, _, rfl, .ty _, .base (.tup hb), kit_ty (b := "tuple") (r := true) (by decide +kernel), _, rfl, iteF ?_⟩
    refine ⟨_, rfl, b, rfl, ⟨_, .inl (.inl hb)⟩, ?_⟩
    refine for_it walk_tup (fun i σ H' => ∃ v1, σ = [some (.ref b), v1] ∧ H' = H) ⟨_, rfl, rfl⟩ (fun i σ H' _ z => by obtain ⟨_, _, rfl⟩ := z; exact .inl (.inl hb)) ?_ ?_
    · rintro i x σ H2 H3 hi ⟨v1, rfl, rfl⟩ ⟨rfl, hx⟩
      rw [List.getElem?_map] at hx
      obtain ⟨z, hz, rfl⟩ := Option.map_eq_some_iff.mp hx
      exact ⟨_, rfl, z, rfl, _, rfl, iteF ⟨_, rfl, rfl⟩⟩
    · rintro σ H2 ⟨v1, rfl, rfl⟩
      exact k
/-- a map that was found is one -/
def spJudged : Sp := fun vs H Q _ => ∃ (v g o og : V) (ia : Addr) (rs os : List PRow) (gk ok : List Key) (l : List Nat), vs = [v, g, o, og, .ref ia] ∧ Tp H v (rowsD false rs) ∧ Tp H g (.tuple (gk.map kD)) ∧ Tp H o (rowsD false os) ∧ Tp H og (.tuple (ok.map kD)) ∧ H ia = some (.tup (natV l)) ∧ l.length = rs.length ∧ (∀ a ∈ l, a < os.length) ∧ rs.length ≤ 6 ∧ (∀ r ∈ rs, r.2.length ≤ 4) ∧ os.length ≤ 6 ∧ gk.length ≤ 3 ∧
  (mapOver rs gk os ok l).isSome = true ∧ ∀ H', Same H H' → Q (.bl true) H'
abbrev s_l_judged : Stmt := topS 46
abbrev sc_l_judgedN : List Str := ["_law_rows", "_law_group", "_law_other_rows", "_law_other_group", "_law_thing", "_law_index"]
abbrev ps_l_judged : List Str := ["_law_rows", "_law_group", "_law_other_rows", "_law_other_group", "_law_thing"]
theorem sc_l_judged : FnScope sc_l_judgedN ps_l_judged (defScope s_l_judged) := ⟨rfl, rfl, rfl, by decide +kernel, rfl, by decide +kernel, by decide +kernel⟩
theorem ok_l_judged {f : Addr} {fd : FuncData} (F : Fun K "_law_judged" "_law_judged" s_l_judged f fd) (T : Txt K mg CS) (D_l_integers : Df P w K mg base "_law_integers" 2 ps_l_integers (spInts K)) (D_l_map_over : Df P w K mg base "_law_map_over" 2 ps_l_map_over spOver) : FnOk P w K mg base CX0 3 f fd ps_l_judged spJudged := by
  refine F.ok sc_l_judged (fun vs H Q E h => ?_) (fun cdv A outer s H vs Q E hr h => ?_)
  · obtain ⟨_, _, _, _, _, _, _, _, _, _, rfl, _⟩ := h
    rfl
  · obtain ⟨v, g, o, og, ia, rs, os, gk, ok, l, rfl, hv, hg, ho, hog, hia, ll, la, l6, l4, o6, l3, sm, k⟩ := h
    refine ⟨_, (pss_cons (ps_if (PW.pt (pw_or (pt_not (pt_val (pe_d D_l_integers (hr.mono (by decide)) (pa_cons (pv 4) pa_nil)))) (pw_or1 (pt_cmpR op_ne (pe_callB call_len_seq (by rfl) T.n_len (by decide +kernel) (pa_cons (pv 4) pa_nil)) (pe_callB call_len_seq (by rfl) T.n_len (by decide +kernel) (pa_cons (pv 0) pa_nil)) (nomark _)))))
    (pss_one (ps_ret pe_bl))
    pss_nil)
  (pss_cons (ps_for PassesOwn.never rfl (pi_tup (pv 4)) (pg_name (i := 5) sc_l_judged.nd rfl (Or.inl rfl))
    (pss_one (ps_if (PW.pt (pw_or (pt_cmpR op_lt (pv 5) pe_int (nomark _)) (pw_or1 (pt_cmpR op_ge (pv 5) (pe_callB call_len_seq (by rfl) T.n_len (by decide +kernel) (pa_cons (pv 2) pa_nil)) (nomark _)))))
      (pss_one (ps_ret pe_bl))
      pss_nil)))
  (pss_one (ps_ret (pe_cmpR op_notN (pe_d D_l_map_over (hr.mono (by decide)) (pa_cons (pv 0) (pa_cons (pv 1) (pa_cons (pv 2) (pa_cons (pv 3) (pa_cons (pv 4) pa_nil)))))) pe_non (nomark _)))))), ?_⟩
    obtain ⟨ra, xs, rfl, hra, tra⟩ := rows_t hv
    obtain ⟨o1, oxs, rfl, hox, tox⟩ := rows_t ho
    have lx : xs.length = rs.length := by rw [tra.len, List.length_map]
    have lo : oxs.length = os.length := by rw [tox.len, List.length_map]
    have ln : (natV l).length = l.length := by unfold natV; rw [List.length_map]
    have hia2 := hia
    rw [natV_ints] at hia2
    refine ⟨_, rfl, ia, _, rfl, hia2, _, rfl, iteF ⟨_, rfl, ia, _, rfl, .inr (.inl (.inl hia)), _, rfl, ra, _, rfl, .inr (.inl (.inl hra)), rfl, _, rfl, ifn (fun n => absurd (by rw [ln, lx, ll]) n) fun _ => ?_⟩⟩
    refine ⟨_, rfl, ia, rfl, ⟨_, .inl (.inl hia)⟩, ?_⟩
    refine for_it walk_tup (fun i σ H' => ∃ v5, σ = [some (.ref ra), some g, some (.ref o1), some og, some (.ref ia), v5] ∧ H' = H) ⟨_, rfl, rfl⟩ (fun i σ H' _ z => by obtain ⟨_, _, rfl⟩ := z; exact .inl (.inl hia)) ?_ ?_
    · rintro i x σ H2 H3 hi ⟨v5, rfl, rfl⟩ ⟨rfl, hx⟩
      unfold natV at hx
      rw [List.getElem?_map] at hx
      obtain ⟨a, ha, rfl⟩ := Option.map_eq_some_iff.mp hx
      have lta := la a (List.mem_of_getElem? ha)
      exact ⟨_, rfl, _, _, rfl, rfl, _, rfl, ifd (fun c => absurd c (by omega)) fun _ => ⟨_, rfl, _, rfl, o1, _, rfl, .inr (.inl (.inl hox)), _, _, rfl, rfl, _, rfl, ifd (fun c => absurd c (by omega)) fun _ => ⟨_, rfl, rfl⟩⟩⟩
    · rintro σ H2 ⟨v5, rfl, e9⟩
      subst H2
      refine ⟨_, rfl, _, rfl, _, rfl, _, rfl, _, rfl, .ref ra, g, .ref o1, og, ia, rs, os, gk, ok, l, rfl, hv, hg, ho, hog, .inr hia, ll, la, l6, l4, o6, l3, fun en H3 s3 => ?_, fun m es p H3 s3 hp => ?_⟩
      · rw [en] at sm
        cases sm
      · exact ⟨rfl, k _ s3⟩
end
end Fm

/-! ## K32MH -/
set_option Elab.async false
set_option maxRecDepth 100000
set_option maxHeartbeats 8000000
namespace Fm
open PySem L2
section
variable {P : Program} {w : World} {K : PySem.W.Frag} {mg : Str → Option Value} {base : Heap} {CS CP CQ : Addr}
def spHasMap : Sp := fun vs H Q _ => ∃ (v g o og : V) (rs os : List PRow) (gk ok : List Key), vs = [v, g, o, og] ∧ Tp H v (rowsD false rs) ∧ Tp H g (.tuple (gk.map kD)) ∧ Tp H o (rowsD false os) ∧ Tp H og (.tuple (ok.map kD)) ∧ rs.length ≤ 6 ∧ (∀ r ∈ rs, r.2.length ≤ 4) ∧ os.length ≤ 6 ∧ gk.length ≤ 3 ∧
  ∀ H', Same H H' → Q (.bl (groupMap rs gk os ok).isSome) H'
abbrev s_l_has_map : Stmt := topS 47
abbrev sc_l_has_mapN : List Str := ["_law_rows", "_law_group", "_law_other_rows", "_law_other_group", "_law_begun", "_law_k", "_law_longer", "_law_chosen", "_law_at"]
abbrev ps_l_has_map : List Str := ["_law_rows", "_law_group", "_law_other_rows", "_law_other_group"]
theorem sc_l_has_map : FnScope sc_l_has_mapN ps_l_has_map (defScope s_l_has_map) := ⟨rfl, rfl, rfl, by decide +kernel, rfl, by decide +kernel, by decide +kernel⟩
theorem ok_l_has_map {f : Addr} {fd : FuncData} (F : Fun K "_law_has_map" "_law_has_map" s_l_has_map f fd) (T : Txt K mg CS) (D_l_sent : Df P w K mg base "_law_sent" 1 ps_l_sent spSent) (D_l_map_over : Df P w K mg base "_law_map_over" 2 ps_l_map_over spOver) : FnOk P w K mg base CX0 3 f fd ps_l_has_map spHasMap := by
  refine F.ok sc_l_has_map (fun vs H Q E h => ?_) (fun cdv A outer s H vs Q E hr h => ?_)
  · obtain ⟨_, _, _, _, _, _, _, _, rfl, _⟩ := h
    rfl
  · obtain ⟨v, g, o, og, rs, os, gk, ok, rfl, hv, hg, ho, hog, l6, l4, o6, l3, k⟩ := h
    refine ⟨_, (pss_cons (ps_set (i := 4) sc_l_has_map.nd rfl (Or.inl rfl) (pe_lst (pa_cons (pe_lst pa_nil) pa_nil)))
  (pss_cons (ps_for PassesOwn.never rfl (pi_range1 (by rfl) T.n_range (pa_cons (pe_callB call_len_seq (by rfl) T.n_len (by decide +kernel) (pa_cons (pv 0) pa_nil)) pa_nil)) (pg_name (i := 5) sc_l_has_map.nd rfl (Or.inl rfl))
    (pss_cons (ps_set (i := 6) sc_l_has_map.nd rfl (Or.inl rfl) (pe_lst pa_nil))
    (pss_cons (ps_for PassesOwn.never rfl (pi_list (pv 4)) (pg_name (i := 7) sc_l_has_map.nd rfl (Or.inl rfl))
      (pss_one (ps_for PassesOwn.never rfl (pi_range1 (by rfl) T.n_range (pa_cons (pe_callB call_len_seq (by rfl) T.n_len (by decide +kernel) (pa_cons (pv 2) pa_nil)) pa_nil)) (pg_name (i := 8) sc_l_has_map.nd rfl (Or.inl rfl))
        (pss_one (ps_if (pt_cmpR op_notN (pe_d D_l_map_over (hr.mono (by decide)) (pa_cons (pe_slice sl_tupS (pv 0) po_none (po_some (pe_op op_add (pv 5) pe_int))) (pa_cons (pv 1) (pa_cons (pv 2) (pa_cons (pv 3) (pa_cons (pe_op op_cat (pv 7) (pe_lst (pa_cons (pv 8) pa_nil))) pa_nil)))))) pe_non (nomark _))
          (pss_one (ps_expr (pe_bm PySem.F.plainAttrs_list PySem.F.slot_list_append PySem.F.type_list_append mt_append (pv 6) (pa_cons (pe_op op_cat (pv 7) (pe_lst (pa_cons (pv 8) pa_nil))) pa_nil))))
          pss_nil)))))
    (pss_one (ps_set (i := 4) sc_l_has_map.nd rfl (Or.inl rfl) (pv 6))))))
  (pss_one (ps_ret (pe_and (pe_cmpR op_gt (pe_callB call_len_seq (by rfl) T.n_len (by decide +kernel) (pa_cons (pv 4) pa_nil)) pe_int (nomark _)) (pe_one (pe_cmpR op_notN (pe_d D_l_sent (hr.mono (by decide)) (pa_cons pe_dnewK (pa_cons (pv 1) (pa_cons (pv 3) pa_nil)))) pe_non (nomark _)))))))), ?_⟩
    obtain ⟨ga, rfl, hga⟩ := keysT hg
    obtain ⟨oa, rfl, hoa⟩ := keysT hog
    obtain ⟨ra, xs, rfl, hra, tra⟩ := rows_t hv
    obtain ⟨o1, oxs, rfl, hox, tox⟩ := rows_t ho
    have lx : xs.length = rs.length := by rw [tra.len, List.length_map]
    have lo : oxs.length = os.length := by rw [tox.len, List.length_map]
    refine ⟨(by show 0 ≤ sizeLine; decide), fun e he => ⟨(by show 1 ≤ sizeLine; decide), fun B hB => ?_⟩⟩
    have s1 : Same H (upd H e (.lst [])) := same_new _ he
    have s2 : Same (upd H e (.lst [])) (upd (upd H e (.lst [])) B (.lst [.ref e])) := same_new _ hB
    have t2 : TpAll (upd (upd H e (.lst [])) B (.lst [.ref e])) [.ref e] (([[]] : List (List Nat)).map lD) := .cons (.lst (s2 _ _ (show (upd H e (.lst [])) e = _ from upd_same)) .nil) .nil
    have b2 : (upd (upd H e (.lst [])) B (.lst [.ref e])) B = some (.lst [.ref e]) := upd_same
    have s02 := s1.trans s2
    generalize upd (upd H e (.lst [])) B (.lst [.ref e]) = H2 at *
    refine ⟨_, rfl, ra, _, rfl, .inr (.inl (.inl (s02 _ _ hra))), (xs.length : Int), rfl, by omega, by omega, ?_⟩
    refine for_range (lo := 0) (n := (xs.length : Int).toNat) (fun i σ H' => ∃ (B : Addr) (ys : List V) (bg : List (List Nat)) (v5 v6 v7 v8 : Option V), σ = [some (.ref ra), some (.ref ga), some (.ref o1), some (.ref oa), some (.ref B), v5, v6, v7, v8] ∧ Same H H' ∧ H' B = some (.lst ys) ∧ TpAll H' ys (bg.map lD) ∧ BfsG rs gk os ok i bg)
      ⟨B, _, [[]], _, _, _, _, rfl, s02, b2, t2, BfsG.start _ _ _ _⟩ ?_ ?_
    · rintro i σ H3 hi ⟨B, ys, bg, v5, v6, v7, v8, rfl, s3, hB3, tB, bf⟩
      rw [Int.zero_add]
      have hi2 : i < rs.length := by omega
      have lB : ys.length = bg.length := by rw [tB.len, List.length_map]
      refine ⟨(by show 0 ≤ sizeLine; decide), fun L hL => ?_⟩
      have s34 : Same H3 (upd H3 L (.lst [])) := same_new _ hL
      have L4 : (upd H3 L (.lst [])) L = some (.lst []) := upd_same
      have nLB : L ≠ B := fun z => by rw [z, hB3] at hL; cases hL
      generalize upd H3 L (.lst []) = H4 at *
      have p6 : 6 ^ i ≤ 7776 := by
        have : i ≤ 5 := by omega
        exact Nat.le_trans (Nat.pow_le_pow_right (by decide) this) (by decide)
      have lbg := bf.len
      refine ⟨_, rfl, B, rfl, ⟨_, .inl (.inl (s34 _ _ hB3))⟩, ?_⟩
      refine for_it walk_list (fun j σ' H' => ∃ (zs : List V) (v7 v8 : Option V), σ' = [some (.ref ra), some (.ref ga), some (.ref o1), some (.ref oa), some (.ref B), some (.int (i : Nat)), some (.ref L), v7, v8] ∧ Same H3 H' ∧ H' L = some (.lst zs) ∧ TpAll (cut H' L) zs (((bg.take j).flatMap (stepG rs gk os ok i os.length)).map lD))
        ⟨[], _, _, rfl, s34, L4, .nil⟩ (fun j σ' H' _ z => by obtain ⟨_, _, _, _, z, _⟩ := z; exact .inl (.inl (z _ _ hB3))) ?_ ?_
      · rintro j y σ' H5 H6 hj ⟨zs, v7, v8, rfl, s5, L5, t5⟩ ⟨rfl, hy⟩
        obtain ⟨d0, hd0, ty⟩ := tB.at hy
        rw [List.getElem?_map] at hd0
        obtain ⟨c, hc, rfl⟩ := Option.map_eq_some_iff.mp hd0
        obtain ⟨ca, rfl, hca⟩ := lD_inv ty
        have mc := List.mem_of_getElem? hc
        obtain ⟨lc, cin, _⟩ := bf.snd c mc
        have lj : (bg.take j).length ≤ j := by rw [List.length_take]; omega
        have fl := flat_len (fun c => stepG_len rs gk os ok i os.length c) (bg.take j)
        have jb : j < bg.length := by omega
        refine ⟨_, rfl, o1, _, rfl, .inr (.inl (.inl ((s3.trans s5) _ _ hox))), (oxs.length : Int), rfl, by omega, by omega, ?_⟩
        refine for_range (lo := 0) (n := (oxs.length : Int).toNat) (fun a σ' H' => ∃ (zs : List V) (v8 : Option V), σ' = [some (.ref ra), some (.ref ga), some (.ref o1), some (.ref oa), some (.ref B), some (.int (i : Nat)), some (.ref L), some (.ref ca), v8] ∧ Same H3 H' ∧ H' L = some (.lst zs) ∧ TpAll (cut H' L) zs (((bg.take j).flatMap (stepG rs gk os ok i os.length) ++ ((List.range a).filter fun a => (mapOver (rs.take (i + 1)) gk os ok (c ++ [a])).isSome).map fun a => c ++ [a]).map lD))
          ⟨zs, _, rfl, s5, L5, by rw [List.range_zero, List.filter_nil, List.map_nil, List.append_nil]; exact t5⟩ ?_ ?_
        · rintro a σ' H7 ha ⟨zs, v8, rfl, s7, L7, t7⟩
          rw [Int.zero_add]
          have hao : a < os.length := by omega
          have s07 := s3.trans s7
          have lz := t7.len
          have f1 := List.length_filter_le (fun a => (mapOver (rs.take (i + 1)) gk os ok (c ++ [a])).isSome) (List.range a)
          rw [List.length_range] at f1
          have lz2 : zs.length ≤ 60000 := by
            rw [lz, List.length_map, List.length_append, List.length_map]
            have q : (bg.take j).length * os.length ≤ 7776 * 6 := Nat.mul_le_mul (by omega) o6
            omega
          have step : ∀ (b : Bool), (mapOver (rs.take (i + 1)) gk os ok (c ++ [a])).isSome = b → ((bg.take j).flatMap (stepG rs gk os ok i os.length) ++ ((List.range (a + 1)).filter fun a => (mapOver (rs.take (i + 1)) gk os ok (c ++ [a])).isSome).map fun a => c ++ [a]) = ((bg.take j).flatMap (stepG rs gk os ok i os.length) ++ ((List.range a).filter fun a => (mapOver (rs.take (i + 1)) gk os ok (c ++ [a])).isSome).map fun a => c ++ [a]) ++ (if b = true then [c ++ [a]] else []) := fun b hb => by
            rw [List.range_succ, List.filter_append, List.map_append, ← List.append_assoc]
            congr 1
            cases b with
            | true => rw [List.filter_cons_of_pos (p := fun a => (mapOver (rs.take (i + 1)) gk os ok (c ++ [a])).isSome) hb]; rfl
            | false => rw [List.filter_cons_of_neg (p := fun a => (mapOver (rs.take (i + 1)) gk os ok (c ++ [a])).isSome) (by rw [hb]; exact Bool.false_ne_true)]; rfl
          refine ⟨_, rfl, _, rfl, _, _, rfl, rfl, _, rfl, ra, xs, rfl, s07 _ _ hra, fun sl H8 s8 hsl => ?_⟩
          have e1 : cutV xs none (some ((i : Int) + 1)) = xs.take (i + 1) := cutV_to xs (i + 1)
          have hsl2 : H8 sl = some (.tup (xs.take (i + 1))) := by rw [← e1]; exact hsl
          refine ⟨_, rfl, _, rfl, _, rfl, _, rfl, _, rfl, (by show 1 ≤ sizeLine; decide), fun e1a he1 => ?_⟩
          have s9 : Same H8 (upd H8 e1a (.lst [.int (a : Nat)])) := same_new _ he1
          have e9 : (upd H8 e1a (.lst [.int (a : Nat)])) e1a = some (.lst [.int (a : Nat)]) := upd_same
          have s79 := s8.trans s9
          generalize upd H8 e1a (.lst [.int (a : Nat)]) = H9 at *
          have bnd : (natV c).length + [V.int (a : Nat)].length ≤ sizeLine := by
            unfold natV
            rw [List.length_map]
            exact Nat.le_trans (show _ ≤ 10 by show c.length + 1 ≤ 10; omega) (by decide)
          refine ⟨ca, e1a, natV c, [.int (a : Nat)], rfl, rfl, s79 _ _ (s7 _ _ hca), e9, bnd, fun p1 hp1 => ?_⟩
          have sA : Same H9 (upd H9 p1 (.lst (natV c ++ [.int (a : Nat)]))) := same_new _ hp1
          have pA : (upd H9 p1 (.lst (natV c ++ [.int (a : Nat)]))) p1 = some (.lst (natV (c ++ [a]))) := by rw [upd_same, natV_app]; rfl
          have s7A := s79.trans sA
          generalize upd H9 p1 (.lst (natV c ++ [.int (a : Nat)])) = HA at *
          have s0A := s07.trans s7A
          have cut7 : ∀ {H' : Hp}, Same H7 H' → Same (cut H7 L) (cut H' L) := fun s => cut_mono s
          refine ⟨.ref sl, .ref ga, .ref o1, .ref oa, p1, rs.take (i + 1), os, gk, ok, c ++ [a], rfl, (show Tp HA (.ref sl) (.tuple ((rs.take (i + 1)).map (prowD false))) from .tup ((s9.trans sA) _ _ hsl2) (by rw [List.map_take]; exact (tra.take (i + 1)).same s0A)), hg.same s0A, ho.same s0A, hog.same s0A, .inl pA, by rw [List.length_append, List.length_take, lc]; show i + 1 = _; omega, fun x mx => ?_, by rw [List.length_take]; omega, fun r mr => l4 r (List.mem_of_mem_take mr), o6, l3, fun en HB sB => ?_, fun m em p2 HB sB hp2 => ?_⟩
          · rcases List.mem_append.mp mx with mx | mx
            · exact cin x mx
            · rw [List.mem_singleton.mp mx]
              exact hao
          · have s7B := s7A.trans sB
            refine ⟨rfl, _, rfl, iteF ⟨zs, _, rfl, s7.trans s7B, s7B _ _ L7, ?_⟩⟩
            rw [step false (by rw [en]; rfl)]
            simp only [Bool.false_eq_true, if_false, List.append_nil]
            exact t7.same (cut7 s7B)
          · have s7B := s7A.trans sB
            have LB := s7B _ _ L7
            refine ⟨rfl, _, rfl, iteT ⟨_, rfl, .inl ⟨rfl, _, .inl (.inl LB)⟩, _, rfl, _, rfl, (by show 1 ≤ sizeLine; decide), fun e2a he2 => ?_⟩⟩
            have sC : Same HB (upd HB e2a (.lst [.int (a : Nat)])) := same_new _ he2
            have eC : (upd HB e2a (.lst [.int (a : Nat)])) e2a = some (.lst [.int (a : Nat)]) := upd_same
            generalize upd HB e2a (.lst [.int (a : Nat)]) = HC at *
            have s7C := s7B.trans sC
            refine ⟨ca, e2a, natV c, [.int (a : Nat)], rfl, rfl, s7C _ _ (s7 _ _ hca), eC, bnd, fun p3 hp3 => ?_⟩
            have sD : Same HC (upd HC p3 (.lst (natV c ++ [.int (a : Nat)]))) := same_new _ hp3
            have pD : (upd HC p3 (.lst (natV c ++ [.int (a : Nat)]))) p3 = some (.lst (natV (c ++ [a]))) := by rw [upd_same, natV_app]; rfl
            have LC := s7C _ _ L7
            have npL : p3 ≠ L := Ne.symm (ne_of_none LC hp3)
            have s7D := s7C.trans sD
            generalize upd HC p3 (.lst (natV c ++ [.int (a : Nat)])) = HD at *
            refine ⟨L, zs, _, rfl, rfl, s7D _ _ L7, Nat.lt_of_le_of_lt lz2 (by decide), ?_⟩
            refine ⟨zs ++ [.ref p3], _, rfl, same_put (s7.trans s7D) _ hL, upd_same, ?_⟩
            rw [cut_put, step true (by rw [em]; rfl)]
            simp only [if_true, List.map_append]
            rw [← List.map_append]
            exact (t7.same (cut7 s7D)).snoc (.lst (by rw [cut_ne npL]; exact pD) (nat_tp _))
        · rintro σ' H7 ⟨zs, v8, rfl, s7, L7, t7⟩
          have eo : (oxs.length : Int).toNat = os.length := by omega
          rw [eo] at t7
          refine ⟨zs, _, _, rfl, s7, L7, ?_⟩
          rw [List.take_add_one, hc, List.flatMap_append]
          have z : ((some c).toList.flatMap (stepG rs gk os ok i os.length)) = stepG rs gk os ok i os.length c := by
            show stepG rs gk os ok i os.length c ++ [] = _
            rw [List.append_nil]
          rw [z]
          exact t7
      · rintro σ' H5 ⟨zs, v7, v8, rfl, s5, L5, t5⟩
        rw [lB, List.take_length] at t5
        exact ⟨_, rfl, L, zs, _, _, _, _, _, rfl, s3.trans s5, L5, t5.same cut_sub, bf.next hi2 o6⟩
    · rintro σ H3 ⟨B, ys, bg, v5, v6, v7, v8, rfl, s3, hB3, tB, bf⟩
      have ei : (xs.length : Int).toNat = rs.length := by omega
      rw [ei] at bf
      have lB : ys.length = bg.length := by rw [tB.len, List.length_map]
      have st := bf.stop
      refine ⟨_, rfl, B, _, rfl, .inl (.inl (.inl hB3)), _, _, rfl, rfl, _, rfl, ?_⟩
      rw [st] at k
      by_cases c : 0 < bg.length
      · refine ifd (fun _ => ?_) fun n => absurd (show (0 : Int) < (ys.length : Int) by omega) n
        rw [decide_eq_true c] at k
        refine fun e he => ?_
        have s4 : Same H3 (upd H3 e (.dK [])) := same_new _ he
        have e4 : (upd H3 e (.dK [])) e = some (.dK (imG [])) := upd_same
        generalize upd H3 e (.dK []) = H4 at *
        have s04 := s3.trans s4
        refine ⟨_, rfl, _, rfl, e, ga, oa, [], gk, ok, rfl, e4, s04 _ _ hga, s04 _ _ hoa, by show 0 ≤ 100; omega, by omega, fun en H5 s5 => ?_, fun n2 es p H5 np s5 hp => ?_⟩
        · rw [en] at k
          exact ⟨rfl, k _ (s04.trans s5)⟩
        · rw [es] at k
          exact ⟨rfl, k _ (s04.trans s5)⟩
      · refine ifd (fun z => absurd z (by omega)) fun _ => ?_
        rw [decide_eq_false c] at k
        exact k _ s3
end
end Fm

/-! ## FmLen -/
set_option Elab.async false
set_option maxRecDepth 100000
/-! len of a dict with keys that are numbers and texts. -/
namespace Fm
open PySem L2
theorem call_len_dK {X : Cx} : CallR X (.builtin "len") (fun xs H Q => ∃ (a : Addr) (kvs : List (Key × V)), xs = [.ref a] ∧ Rd H a (.dK kvs) ∧ Q (.int kvs.length) H) := by
  intro pins s σ H xs us Q I r h
  obtain ⟨a, kvs, rfl, e, q⟩ := h
  obtain ⟨u, rfl, rx⟩ := vals1 r
  obtain rfl : u = .ref a := rx
  exact d_len I e fun t s' I' => ⟨.int (kvs.length : Nat), H, I', ⟨_, rfl⟩, q⟩
end Fm

/-! ## K32MI -/
set_option Elab.async false
set_option maxRecDepth 100000
set_option maxHeartbeats 8000000
namespace Fm
open PySem L2
theorem addU_pre (us : List Str) (k : Key) : us <+: addU us k := by
  cases k with
  | inl z => exact List.prefix_rfl
  | inr s =>
    show us <+: (if s ∈ us then us else us ++ [s])
    split
    · exact List.prefix_rfl
    · exact List.prefix_append _ _
theorem foldU_pre : ∀ (ks : List Key) (us : List Str), us <+: ks.foldl addU us
  | [], us => List.prefix_rfl
  | k :: ks, us => (addU_pre us k).trans (foldU_pre ks (addU us k))
theorem foldR_pre : ∀ (rs : List PRow) (us : List Str), us <+: rs.foldl addR us
  | [], us => List.prefix_rfl
  | r :: rs, us => (foldU_pre r.2 us).trans (foldR_pre rs (addR us r))
theorem idx_of_pre {us US : List Str} {s : Str} (m : s ∈ us) (h : us <+: US) : US.idxOf s = us.idxOf s := by
  obtain ⟨t, rfl⟩ := h
  rw [List.idxOf_append, if_pos m]
theorem unks_at {rs : List PRow} {i j : Nat} {r : PRow} (h : rs[i]? = some r) : (r.2.take j).foldl addU (unks (rs.take i)) <+: unks rs := by
  have e1 : unks rs = (rs.drop (i + 1)).foldl addR (addR (unks (rs.take i)) r) := by
    have e2 : rs = rs.take i ++ r :: rs.drop (i + 1) := by
      obtain ⟨_, q⟩ := List.getElem?_eq_some_iff.mp h
      rw [← q, List.getElem_cons_drop, List.take_append_drop]
    conv => lhs; rw [e2]
    unfold unks
    rw [List.foldl_append, List.foldl_cons]
  rw [e1]
  refine List.IsPrefix.trans ?_ (foldR_pre _ _)
  show _ <+: r.2.foldl addU (unks (rs.take i))
  conv => rhs; rw [← List.take_append_drop j r.2]
  rw [List.foldl_append]
  exact foldU_pre _ _
theorem unks_next {rs : List PRow} {i : Nat} {r : PRow} (h : rs[i]? = some r) : unks (rs.take (i + 1)) = r.2.foldl addU (unks (rs.take i)) := by
  unfold unks
  rw [List.take_add_one, h, List.foldl_append]
  rfl
theorem cut2 {a b : Addr} {H H' : Hp} (s : SameX b H H') : Same (cut (cut H a) b) (cut (cut H' a) b) := fun c o e => by
  have nb : c ≠ b := fun z => by rw [z, cut_at] at e; cases e
  rw [cut_ne nb] at e
  have na : c ≠ a := fun z => by rw [z, cut_at] at e; cases e
  rw [cut_ne na] at e
  rw [cut_ne nb, cut_ne na]
  exact s c o nb e
theorem cut2_put {a b : Addr} {H : Hp} {o : HO} : cut (cut (upd H a o) a) b = cut (cut H a) b := by rw [cut_put]
def rpwL (us : List Str) (pw : List (Str × Int)) : List (Str × Int) := pw.map fun p => (lt (us.idxOf p.1), p.2)
section
variable {P : Program} {w : World} {K : PySem.W.Frag} {mg : Str → Option Value} {base : Heap} {CS CP CQ : Addr}
def spDue : Sp := fun vs H Q _ => ∃ (rp gp pp : Addr) (rs : List PRow) (gk : List Key) (pw : List (Str × Int)), vs = [.ref rp, .ref gp, .ref pp] ∧ Tp H (.ref rp) (rowsD true rs) ∧ Tp H (.ref gp) (seqD true (gk.map kD)) ∧ H pp = some (.dK (pwK pw)) ∧ RsFew rs ∧ gk.length ≤ 3 ∧ Known (unks rs) gk ∧ PwOk pw (unks rs) ∧
  ∀ (tp t1 t2 t3 : Addr) (H' : Hp), H tp = none → Same H H' → H' tp = some (.tup [.ref t1, .ref t2, .ref t3]) → Tp H' (.ref t1) (rowsD false (named2 rs)) → Tp H' (.ref t2) (.tuple ((gk.map (renK (unks rs))).map kD)) → (∃ L : List (Str × Int), L.Perm (rpwL (unks rs) pw) ∧ Tp H' (.ref t3) (.tuple (L.map pwD))) → Q (.ref tp) H'
abbrev s_l_due : Stmt := topS 42
abbrev sc_l_dueN : List Str := ["_law_rows", "_law_group", "_law_powers", "_law_names", "_law_made", "_law_table", "_law_symbols", "_law_told", "_law_symbol", "_law_name_here"]
abbrev ps_l_due : List Str := ["_law_rows", "_law_group", "_law_powers"]
theorem sc_l_due : FnScope sc_l_dueN ps_l_due (defScope s_l_due) := ⟨rfl, rfl, rfl, by decide +kernel, rfl, by decide +kernel, by decide +kernel⟩
theorem ok_l_due {f : Addr} {fd : FuncData} (F : Fun K "_law_due" "_law_due" s_l_due f fd) (T : Txt K mg CS) : FnOk P w K mg base CX0 1 f fd ps_l_due spDue := by
  refine F.ok sc_l_due (fun vs H Q E h => ?_) (fun cdv A outer s H vs Q E hr h => ?_)
  · obtain ⟨_, _, _, _, _, _, rfl, _⟩ := h
    rfl
  · obtain ⟨rp, gp, pp, rs, gk, pw, rfl, tr, tg, hpp, few, l3, kgk, pok, k⟩ := h
    refine ⟨_, (pss_cons (ps_set (i := 3) sc_l_due.nd rfl (Or.inr rfl) pe_dnewK)
  (pss_cons (ps_set (i := 4) sc_l_due.nd rfl (Or.inl rfl) (pe_lst pa_nil))
  (pss_cons (ps_for PassesOwn.never rfl (pi_list (pv 0)) (pg_tup (by rfl) (pgs_cons (pg_name (i := 5) sc_l_due.nd rfl (Or.inl rfl)) (pgs_cons (pg_name (i := 6) sc_l_due.nd rfl (Or.inl rfl)) pgs_nil)))
    (pss_cons (ps_set (i := 7) sc_l_due.nd rfl (Or.inl rfl) (pe_lst pa_nil))
    (pss_cons (ps_for PassesOwn.never rfl (pi_list (pv 6)) (pg_name (i := 8) sc_l_due.nd rfl (Or.inl rfl))
      (pss_one (ps_if (pt_val (pe_callB call_isi (by rfl) T.n_isinstance (by decide +kernel) (pa_cons (pv 8) (pa_cons (pe_bltn (v := .ty "str") (by rfl) T.n_str (by decide +kernel) rfl) pa_nil))))
        (Evl.pss_cut (ps_if (pt_cmp (pc_dnotin (Nat.lt_of_le_of_lt (Nat.add_le_add_left (by decide) _) hr.units) (pv 8) (pv 3)) (by rfl))
          (pss_one (ps_asg (pe_ix ix_str pe_str (pe_callB call_len_dK (by rfl) T.n_len (by decide +kernel) (pa_cons (pv 3) pa_nil)) (fun _ _ => rfl)) (pg_sub (pv 3) (pv 8) (set_dict (Nat.lt_of_le_of_lt (Nat.add_le_add_left (by decide) _) hr.units)))))
          pss_nil)
        (pss_one (ps_expr (pe_bm PySem.F.plainAttrs_list PySem.F.slot_list_append PySem.F.type_list_append mt_append (pv 7) (pa_cons (pe_dget (Nat.lt_of_le_of_lt (Nat.add_le_add_left (by decide) _) hr.units) (pv 3) (pv 8) (fun _ _ => rfl)) pa_nil)))))
        (pss_one (ps_expr (pe_bm PySem.F.plainAttrs_list PySem.F.slot_list_append PySem.F.type_list_append mt_append (pv 7) (pa_cons (pv 8) pa_nil)))))))
    (pss_one (ps_expr (pe_bm PySem.F.plainAttrs_list PySem.F.slot_list_append PySem.F.type_list_append mt_append (pv 4) (pa_cons (pe_tup (pa_cons (pv 5) (pa_cons (pe_callTy call_tuple_of (by rfl) T.n_tuple (by decide +kernel) (pa_cons (pv 7) pa_nil)) pa_nil))) pa_nil)))))))
  (pss_cons (ps_setLc (i := 7) (own := [("_law_symbol", 8)]) (g := gName 8) (tt := tYes) (by rfl) sc_l_due.nd rfl rfl (sw_true rfl rfl rfl (by decide +kernel)) (pi_list (pv 1)) (blkOk_by (own := [("_law_symbol", 8)]) (N := sc_l_dueN) (sc := defScope s_l_due) (by decide +kernel)) (fun _ _ _ _ _ => pg_name (i := 8) sc_l_due.nd rfl (Or.inl rfl)) (fun _ _ _ _ _ => pts_nil) (fun _ _ _ _ _ => (pe_ifExp (pt_val (pe_callB (cK_isi (K := K)) (by rfl) T.n_isinstance (by decide +kernel) (pa_cons (pv 8) (pa_cons (pe_bltn (v := .ty "str") (by rfl) T.n_str (by decide +kernel) rfl) pa_nil)))) (pe_dget (Nat.lt_of_le_of_lt (Nat.add_le_add_left (by decide) _) hr.units) (pv 3) (pv 8) (fun _ _ => rfl)) (pv 8))))
  (pss_one (ps_ret (pe_tup (pa_cons (pe_callTy call_tuple_of (by rfl) T.n_tuple (by decide +kernel) (pa_cons (pv 4) pa_nil)) (pa_cons (pe_callTy call_tuple_of (by rfl) T.n_tuple (by decide +kernel) (pa_cons (pv 7) pa_nil)) (pa_cons (pe_callTy call_tuple_of (by rfl) T.n_tuple (by decide +kernel) (pa_cons (pe_lock (pe_callB cr_sortedSI (by rfl) T.n_sorted (by decide +kernel) (pa_cons (pe_lc (own := [("_law_name_here", 9)]) (g := gName 9) (tt := tYes) (by rfl) sc_l_due.nd (pi_keys (pv 2)) (blkOk_by (own := [("_law_name_here", 9)]) (N := sc_l_dueN) (sc := defScope s_l_due) (by decide +kernel)) (fun _ _ _ _ _ => pg_name (i := 9) sc_l_due.nd rfl (Or.inl rfl)) (fun _ _ _ _ _ => pts_nil) (fun _ _ _ _ _ => (pe_tup (pa_cons (pe_dget (Nat.lt_of_le_of_lt (Nat.add_le_add_left (by decide) _) hr.units) (pv 3) (pv 9) (fun _ _ => rfl)) (pa_cons (pe_dget (Nat.lt_of_le_of_lt (Nat.add_le_add_left (by decide) _) hr.units) (pv 2) (pv 9) (fun _ _ => rfl)) pa_nil))))) pa_nil))) pa_nil)) pa_nil)))))))))), ?_⟩
    obtain ⟨_, rxs, e0, hrp, tR⟩ := (show Tp H (.ref rp) (.list (rs.map (prowD true))) from tr).list
    cases e0
    obtain ⟨_, gxs, e1, hgp, tG⟩ := (show Tp H (.ref gp) (.list (gk.map kD)) from tg).list
    cases e1
    have egx := keys_inv tG
    subst egx
    have lr := tR.len
    rw [List.length_map] at lr
    have l6 := few.1
    have lu := unks_len few
    refine fun nd hnd => ⟨(by show 0 ≤ sizeLine; decide), fun mk hmk => ?_⟩
    have s1 : Same H (upd H nd (.dK [])) := same_new _ hnd
    have n1 : (upd H nd (.dK [])) nd = some (.dK (nmK 0 [])) := upd_same
    have s2 : Same (upd H nd (.dK [])) (upd (upd H nd (.dK [])) mk (.lst [])) := same_new _ hmk
    have n2 := s2 _ _ n1
    have m2 : (upd (upd H nd (.dK [])) mk (.lst [])) mk = some (.lst []) := upd_same
    have s02 := s1.trans s2
    have mkH : H mk = none := s1.free hmk
    have nmn : mk ≠ nd := fun z => by rw [z, n1] at hmk; cases hmk
    generalize upd (upd H nd (.dK [])) mk (.lst []) = H2 at *
    refine ⟨_, rfl, rp, rfl, ⟨_, .inl (.inl (s02 _ _ hrp))⟩, ?_⟩
    refine for_it walk_list (fun i σ' H' => ∃ (v5 v6 v7 v8 : Option V) (ys : List V), σ' = [some (.ref rp), some (.ref gp), some (.ref pp), some (.ref nd), some (.ref mk), v5, v6, v7, v8, none] ∧ Same H H' ∧ H' nd = some (.dK (nmK 0 (unks (rs.take i)))) ∧ H' mk = some (.lst ys) ∧ TpAll (cut (cut H' mk) nd) ys (((rs.take i).map (renR (unks rs))).map (prowD false)))
      ⟨_, _, _, _, [], rfl, s02, n2, m2, .nil⟩ (fun i σ' H' _ z => by obtain ⟨_, _, _, _, _, _, z, _⟩ := z; exact .inl (.inl (z _ _ hrp))) ?_ ?_
    · rintro i x σ' H3 H4 hi ⟨v5, v6, v7, v8, ys, rfl, s3, n3, m3, t3⟩ ⟨rfl, hx⟩
      obtain ⟨c, hc, hxc⟩ := tR.at hx
      rw [List.getElem?_map] at hc
      obtain ⟨r, hr0, rfl⟩ := Option.map_eq_some_iff.mp hc
      have mr := List.mem_of_getElem? hr0
      have l4 := few.2 r mr
      obtain ⟨ra, sy, rfl, hra, sxs, hsx, _, tsq⟩ := row_at hxc
      obtain ⟨_, _, e1, hsy, tk⟩ := (show Tp H (.ref sy) (.list (r.2.map kD)) from tsq).list
      cases e1
      have ekk := keys_inv tk
      subst ekk
      refine ⟨ra, _, rfl, .inl (.inl (s3 _ _ hra)), rfl, _, _, rfl, _, _, rfl, rfl, ?_⟩
      refine ⟨(by show 0 ≤ sizeLine; decide), fun tl htl => ?_⟩
      have s34 : Same H4 (upd H4 tl (.lst [])) := same_new _ htl
      have tl4 : (upd H4 tl (.lst [])) tl = some (.lst []) := upd_same
      have ntn : tl ≠ nd := fun z => by rw [z, n3] at htl; cases htl
      have ntm : tl ≠ mk := fun z => by rw [z, m3] at htl; cases htl
      have tlH : H tl = none := s3.free htl
      have n4 := s34 _ _ n3
      generalize upd H4 tl (.lst []) = H5 at *
      have hsy5 := (s3.trans s34) _ _ hsy
      have ndH := hnd
      have nsn : sy ≠ nd := fun z => by rw [z, ndH] at hsy; cases hsy
      have nst : sy ≠ tl := fun z => by rw [z, tlH] at hsy; cases hsy
      refine ⟨_, rfl, sy, rfl, ⟨_, .inl (.inl hsy5)⟩, ?_⟩
      refine for_it walk_list (fun j σ' H' => ∃ (v8 : Option V), σ' = [some (.ref rp), some (.ref gp), some (.ref pp), some (.ref nd), some (.ref mk), some (.str r.1), some (.ref sy), some (.ref tl), v8, none] ∧ SameX nd H4 H' ∧ H' nd = some (.dK (nmK 0 ((r.2.take j).foldl addU (unks (rs.take i))))) ∧ H' tl = some (.lst (((r.2.take j).map (renK (unks rs))).map kV)))
        ⟨_, rfl, SameX.of s34, n4, tl4⟩ (fun j σ' H' _ z => by obtain ⟨_, _, z, _⟩ := z; exact .inl (.inl (z _ _ nsn (s3 _ _ hsy)))) ?_ ?_
      · rintro j y σ' H6 H7 hj ⟨v8, rfl, x6, n6, t6⟩ ⟨rfl, hy⟩
        rw [List.length_map] at hj
        rw [List.getElem?_map] at hy
        obtain ⟨kk, hk, rfl⟩ := Option.map_eq_some_iff.mp hy
        have est := fold_take (f := addU) (b := unks (rs.take i)) hk
        have pre1 := unks_at (j := j + 1) hr0
        have pre0 := unks_at (j := j) hr0
        have lj : (((r.2.take j).map (renK (unks rs))).map kV).length < sizeLine := by
          rw [List.length_map]
          exact take_lt _ (by omega)
        have fin : ∀ {H8 : Hp}, SameX nd H4 H8 → H8 nd = some (.dK (nmK 0 ((r.2.take (j + 1)).foldl addU (unks (rs.take i))))) → SameX nd H4 (upd H8 tl (.lst (((r.2.take j).map (renK (unks rs))).map kV ++ [kV (renK (unks rs) kk)]))) ∧ (upd H8 tl (.lst (((r.2.take j).map (renK (unks rs))).map kV ++ [kV (renK (unks rs) kk)]))) nd = some (.dK (nmK 0 ((r.2.take (j + 1)).foldl addU (unks (rs.take i))))) ∧ (upd H8 tl (.lst (((r.2.take j).map (renK (unks rs))).map kV ++ [kV (renK (unks rs) kk)]))) tl = some (.lst (((r.2.take (j + 1)).map (renK (unks rs))).map kV)) := fun {H8} x8 n8 => by
          refine ⟨fun b o nb e => ?_, by rw [upd_ne (Ne.symm ntn)]; exact n8, by rw [upd_same, map_take _ hk, List.map_append]; rfl⟩
          rw [upd_ne (fun z => by rw [z, htl] at e; cases e)]
          exact x8 b o nb e
        cases kk with
        | inl z =>
          refine ⟨_, rfl, _, _, _, _, _, rfl, .ty _, (Tp.int z).ty (K := K), kit_ty (kit_d (by simp)), _, rfl, iteF ⟨_, rfl, .inl ⟨rfl, _, .inl (.inl t6)⟩, _, rfl, tl, _, _, rfl, rfl, t6, lj, ?_⟩⟩
          have e2 : (r.2.take (j + 1)).foldl addU (unks (rs.take i)) = (r.2.take j).foldl addU (unks (rs.take i)) := est
          obtain ⟨a1, a2, a3⟩ := fin x6 (by rw [e2]; exact n6)
          exact ⟨_, rfl, a1, a2, a3⟩
        | inr s =>
          refine ⟨_, rfl, _, _, _, _, _, rfl, .ty _, (Tp.str s).ty (K := K), kit_ty (kit_d (by simp)), _, rfl, iteT ?_⟩
          have est2 : (r.2.take (j + 1)).foldl addU (unks (rs.take i)) = if s ∈ (r.2.take j).foldl addU (unks (rs.take i)) then (r.2.take j).foldl addU (unks (rs.take i)) else (r.2.take j).foldl addU (unks (rs.take i)) ++ [s] := est
          generalize (r.2.take j).foldl addU (unks (rs.take i)) = us at *
          have lus : us.length ≤ 24 := by have z := pre0.length_le; omega
          refine ⟨fun σ' H' => σ' = [some (.ref rp), some (.ref gp), some (.ref pp), some (.ref nd), some (.ref mk), some (.str r.1), some (.ref sy), some (.ref tl), some (.str s), none] ∧ SameX nd H4 H' ∧ H' nd = some (.dK (nmK 0 ((r.2.take (j + 1)).foldl addU (unks (rs.take i))))) ∧ H' tl = some (.lst (((r.2.take j).map (renK (unks rs))).map kV)), ?_, ?_⟩
          · refine ⟨_, rfl, _, rfl, nd, valV (nmK 0 us) (Sum.inr s), rfl, .inl ⟨_, Sum.inr s, .inl n6, rfl, rfl⟩, _, rfl, ?_⟩
            by_cases m : s ∈ us
            · rw [nmK_val m]
              refine iteF ⟨rfl, x6, ?_, t6⟩
              rw [est2, if_pos m]
              exact n6
            · rw [nmK_no m]
              have lus2 : us.length < 24 := by
                rw [est2, if_neg m] at pre1
                have z := pre1.length_le
                rw [List.length_append] at z
                have : us.length + 1 ≤ (unks rs).length := z
                omega
              have z := atI_nat (xs := List.range' 97 24) (j := us.length) (v := 97 + us.length) (by rw [List.getElem?_range' (by omega)]; simp)
              have ln : (nmK 0 us).length = us.length := nmK_len 0 us
              refine iteT ⟨_, rfl, nd, _, rfl, .inl n6, _, _, 97 + us.length, rfl, rfl, (by show (24 : Nat) ≤ sizeLine; decide), by rw [ln]; exact z, _, rfl, _, rfl, nd, _, rfl, .inl ⟨_, Sum.inr s, n6, rfl, by rw [ln]; exact Nat.lt_of_le_of_lt (show us.length ≤ 100 by omega) (by decide), rfl⟩, ?_⟩
              refine ⟨rfl, fun b o nb e => by rw [upd_ne nb]; exact x6 b o nb e, ?_, by rw [upd_ne ntn]; exact t6⟩
              rw [upd_same, est2, if_neg m, putK_new _ (nmK_no m), nmK_snoc, Nat.zero_add]
              rfl
          · rintro σ' H8 ⟨rfl, x8, n8, t8⟩
            have ms : s ∈ (r.2.take (j + 1)).foldl addU (unks (rs.take i)) := by
              rw [est2]
              split
              · assumption
              · exact List.mem_append_right _ List.mem_cons_self
            obtain ⟨a1, a2, a3⟩ := fin x8 n8
            refine ⟨_, rfl, .inl ⟨rfl, _, .inl (.inl t8)⟩, _, rfl, _, rfl, nd, _, rfl, .inl ⟨_, Sum.inr s, .inl n8, rfl, (nmK_val ms).symm⟩, tl, _, _, rfl, rfl, t8, lj, ?_⟩
            have ei : V.str (lt (0 + ((r.2.take (j + 1)).foldl addU (unks (rs.take i))).idxOf s)) = kV (renK (unks rs) (.inr s)) := by
              show _ = V.str (lt ((unks rs).idxOf s))
              rw [Nat.zero_add, idx_of_pre ms pre1]
            rw [ei]
            exact ⟨_, rfl, a1, a2, a3⟩
      · rintro σ' H6 ⟨v8, rfl, x6, n6, t6⟩
        rw [List.length_map, List.take_length] at n6 t6
        have m6 := x6 _ _ nmn m3
        refine ⟨_, rfl, .inl ⟨rfl, _, .inl (.inl m6)⟩, _, rfl, _, rfl, tl, _, rfl, .inl ⟨.inl (.inl t6), fun tt htt => ⟨(by show 2 ≤ sizeLine; decide), fun tp htp => ?_⟩⟩⟩
        have s67 : Same H6 (upd H6 tt (.tup ((r.2.map (renK (unks rs))).map kV))) := same_new _ htt
        have tt7 : (upd H6 tt (.tup ((r.2.map (renK (unks rs))).map kV))) tt = some (.tup ((r.2.map (renK (unks rs))).map kV)) := upd_same
        generalize upd H6 tt (.tup ((r.2.map (renK (unks rs))).map kV)) = H7 at *
        have s78 : Same H7 (upd H7 tp (.tup [.str r.1, .ref tt])) := same_new _ htp
        have s68 := s67.trans s78
        have tp8 : (upd H7 tp (.tup [.str r.1, .ref tt])) tp = some (.tup [.str r.1, .ref tt]) := upd_same
        have n7 := s67 _ _ n6
        have m7 := s67 _ _ m6
        have npn : tp ≠ nd := Ne.symm (ne_of_none n7 htp)
        have npm : tp ≠ mk := Ne.symm (ne_of_none m7 htp)
        have nttn : tt ≠ nd := Ne.symm (ne_of_none n6 htt)
        have nttm : tt ≠ mk := Ne.symm (ne_of_none m6 htt)
        have tt8 := s78 _ _ tt7
        have x8 := x6.trans (SameX.of s68)
        generalize upd H7 tp (.tup [.str r.1, .ref tt]) = H8 at *
        have lys := t3.len
        rw [List.length_map, List.length_map, List.length_take] at lys
        refine ⟨mk, ys, _, rfl, rfl, s68 _ _ m6, Nat.lt_of_le_of_lt (show ys.length ≤ 100 by omega) (by decide), ?_⟩
        refine ⟨_, _, _, _, ys ++ [.ref tp], rfl, fun b o e => ?_, ?_, upd_same, ?_⟩
        · rw [upd_ne (fun z => by rw [z, mkH] at e; cases e)]
          exact x8 b o (fun z => by rw [z, ndH] at e; cases e) (s3 _ _ e)
        · rw [upd_ne (Ne.symm nmn), unks_next hr0]
          exact s68 _ _ n6
        · rw [cut_put, map_take _ hr0, List.map_append]
          refine TpAll.snoc (t3.same (cut2 x8)) (.tup (xs := [.str r.1, .ref tt]) (by rw [cut_ne npn, cut_ne npm]; exact tp8) (.cons (.str _) (.cons (.tup (xs := (r.2.map (renK (unks rs))).map kV) (by rw [cut_ne nttn, cut_ne nttm]; exact tt8) (keys_tp _)) .nil)))
    rintro σ' H3 ⟨v5, v6, v7, v8, ys, rfl, s3, n3, m3, t3⟩
    rw [lr, List.take_length] at n3 t3
    have hgp3 := s3 _ _ hgp
    -- the group
    refine ⟨_, rfl, gp, rfl, ⟨_, .inl (.inl hgp3)⟩, fun D hD => ?_⟩
    refine lc_it walk_list (fun j H' => Same H3 H' ∧ H' D = some (.lst (((gk.take j).map (renK (unks rs))).map kV))) ⟨same_new _ hD, upd_same⟩ (fun j H' _ z => .inl (.inl (z.1 _ _ hgp3))) ?_ ?_
    · rintro j y H4 H5 hj ⟨s4, d4⟩ ⟨rfl, hy⟩
      rw [List.getElem?_map] at hy
      obtain ⟨kk, hk, rfl⟩ := Option.map_eq_some_iff.mp hy
      have fin : ∃ acc, H5 D = some (.lst acc) ∧ acc.length < sizeLine ∧ Same H3 (upd H5 D (.lst (acc ++ [kV (renK (unks rs) kk)]))) ∧ (upd H5 D (.lst (acc ++ [kV (renK (unks rs) kk)]))) D = some (.lst (((gk.take (j + 1)).map (renK (unks rs))).map kV)) :=
        ⟨_, d4, by rw [List.length_map]; exact take_lt _ (by omega), same_put s4 _ hD, by rw [upd_same, map_take _ hk, List.map_append]; rfl⟩
      cases kk with
      | inl z => exact ⟨rfl, _, rfl, _, _, _, _, _, rfl, .ty _, (Tp.int z).ty (K := K), kit_ty (kit_d (by simp)), _, rfl, iteF ⟨_, rfl, fin⟩⟩
      | inr s =>
        have ms := kgk s (List.mem_of_getElem? hk)
        have ei : kV (renK (unks rs) (.inr s)) = V.str (lt (0 + (unks rs).idxOf s)) := by rw [Nat.zero_add]; rfl
        rw [ei] at fin
        exact ⟨rfl, _, rfl, _, _, _, _, _, rfl, .ty _, (Tp.str s).ty (K := K), kit_ty (kit_d (by simp)), _, rfl, iteT ⟨_, rfl, _, rfl, nd, _, rfl, .inl ⟨_, Sum.inr s, .inl (s4 _ _ n3), rfl, (nmK_val ms).symm⟩, fin⟩⟩
    rintro H4 ⟨s4, d4⟩
    rw [List.length_map, List.take_length] at d4
    have m4 := s4 _ _ m3
    -- the three tuples
    refine ⟨_, rfl, mk, _, rfl, .inl ⟨.inl (.inl m4), fun t1 ht1 => ?_⟩⟩
    have s45 : Same H4 (upd H4 t1 (.tup ys)) := same_new _ ht1
    have t15 : (upd H4 t1 (.tup ys)) t1 = some (.tup ys) := upd_same
    generalize upd H4 t1 (.tup ys) = H5 at *
    refine ⟨_, rfl, D, _, rfl, .inl ⟨.inl (.inl (s45 _ _ d4)), fun t2 ht2 => ?_⟩⟩
    have s56 : Same H5 (upd H5 t2 (.tup ((gk.map (renK (unks rs))).map kV))) := same_new _ ht2
    have t26 : (upd H5 t2 (.tup ((gk.map (renK (unks rs))).map kV))) t2 = some (.tup ((gk.map (renK (unks rs))).map kV)) := upd_same
    have t16 := s56 _ _ t15
    have s36 := (s4.trans s45).trans s56
    have s06 := s3.trans s36
    have n6 := s36 _ _ n3
    have yT := (t3.same (cut_sub.trans cut_sub)).same s36
    generalize upd H5 t2 (.tup ((gk.map (renK (unks rs))).map kV)) = H6 at *
    have hpp6 := s06 _ _ hpp
    have nnp : nd ≠ pp := fun z => by rw [z, hpp] at hnd; cases hnd
    refine ⟨pp, .dK (pwK pw), hpp6, trivial, fun od => ?_⟩
    have back : ∀ {H' : Hp}, Same (upd H6 pp (.frz od (.dK (pwK pw)))) H' → Same H6 (upd H' pp (.dK (pwK pw))) := fun q b o e => by
      by_cases z : b = pp
      · rw [z, upd_same]
        rw [z, hpp6] at e
        exact e
      · rw [upd_ne z]
        exact q b o (by rw [upd_ne z]; exact e)
    have hL : (upd H6 pp (.frz od (.dK (pwK pw)))) pp = some (.frz od (.dK (pwK pw))) := upd_same
    have nL : (upd H6 pp (.frz od (.dK (pwK pw)))) nd = some (.dK (nmK 0 (unks rs))) := by rw [upd_ne nnp]; exact n6
    generalize upd H6 pp (.frz od (.dK (pwK pw))) = HL at *
    refine ⟨_, rfl, pp, od, rfl, .inl ⟨pwK pw, hL, fun D3 hD3 => ?_⟩⟩
    have lpw : (pwK pw).length = pw.length := by unfold pwK; rw [List.length_map]
    have l24 := pok.few
    refine lc_it walk_keys (fun i H' => Same HL H' ∧ ∃ ys, H' D3 = some (.lst ys) ∧ TpAll (cut (cut H' D3) pp) ys (((pw.take i).map fun p => (lt ((unks rs).idxOf p.1), p.2)).map pwD)) ⟨same_new _ hD3, [], upd_same, .nil⟩ (fun i H' _ z => z.1 _ _ hL) ?_ ?_
    · rintro i y H10 H11 hi ⟨s10, ys, d10, t10⟩ ⟨rfl, kk, v, hk, rfl⟩
      have hk2 := hk
      unfold pwK at hk2
      rw [List.getElem?_map] at hk2
      obtain ⟨p1, hp1, ee⟩ := Option.map_eq_some_iff.mp hk2
      obtain ⟨p', mp, ek, ev, hv⟩ := pwK_at pok.nd hk
      cases ee
      have epp : p'.1 = p1.1 := (Sum.inr.inj ek).symm
      have ep2 : p'.2 = p1.2 := (V.int.inj ev).symm
      rw [epp, ep2] at hv
      obtain ⟨m1, _, _⟩ := pok.kn p' mp
      rw [epp] at m1
      refine ⟨rfl, _, rfl, _, rfl, nd, _, rfl, .inl ⟨_, Sum.inr p1.1, .inl (s10 _ _ nL), rfl, (nmK_val m1).symm⟩, _, rfl, _, rfl, pp, _, rfl, .inl ⟨_, Sum.inr p1.1, .inr ⟨od, s10 _ _ hL⟩, rfl, hv.symm⟩, (by show 2 ≤ sizeLine; decide), fun tp htp => ?_⟩
      have s11 : Same H11 (upd H11 tp (.tup [.str (lt (0 + (unks rs).idxOf p1.1)), .int p1.2])) := same_new _ htp
      have nt1 : tp ≠ D3 := Ne.symm (ne_of_none d10 htp)
      have nt2 : tp ≠ pp := Ne.symm (ne_of_none (s10 _ _ hL) htp)
      have ly := t10.len
      rw [List.length_map, List.length_map, List.length_take] at ly
      refine ⟨ys, s11 _ _ d10, Nat.lt_of_le_of_lt (show _ ≤ 24 by omega) (by decide), same_put (s10.trans s11) _ hD3, ys ++ [.ref tp], upd_same, ?_⟩
      rw [cut_put, map_take _ hp1, List.map_append]
      refine TpAll.snoc (t10.same (cut_mono (cut_mono s11))) (.tup (xs := [.str (lt ((unks rs).idxOf p1.1)), .int p1.2]) ?_ (.cons (.str _) (.cons (.int _) .nil)))
      rw [cut_ne nt2, cut_ne nt1, upd_same, Nat.zero_add]
    rintro H10 ⟨s10, ys3, d10, t10⟩
    rw [lpw, List.take_length] at t10
    refine ⟨D3, ys3, rfl, .inl (.inl d10), fun y my => ?_, fun ys2 q2 pm nq2 => ?_⟩
    · obtain ⟨j, hj⟩ := List.getElem?_of_mem my
      obtain ⟨dd, hdd, td⟩ := t10.at hj
      rw [List.getElem?_map] at hdd
      obtain ⟨p1, _, rfl⟩ := Option.map_eq_some_iff.mp hdd
      obtain ⟨c1, zs, rfl, hc1, tz⟩ := (show Tp _ y (.tuple [.str p1.1, .int p1.2]) from td).tuple
      cases tz with
      | cons h1 h2 => cases h2 with
        | cons h3 h4 =>
          cases h4
          rw [h1.strI, h3.intI] at hc1
          exact ⟨c1, p1.1, p1.2, rfl, cut_sub _ _ (cut_sub _ _ hc1)⟩
    obtain ⟨L, pL, tL⟩ := t10.perm pm
    refine ⟨(same_new _ nq2) _ _ (s10 _ _ hL), ?_⟩
    have s11 : Same H6 (upd (upd H10 q2 (.lst ys2)) pp (.dK (pwK pw))) := back (s10.trans (same_new _ nq2))
    have q11 : (upd (upd H10 q2 (.lst ys2)) pp (.dK (pwK pw))) q2 = some (.lst ys2) := by
      rw [upd_ne, upd_same]
      intro z
      have y := s10 pp _ hL
      rw [← z, nq2] at y
      cases y
    have t11 : TpAll (upd (upd H10 q2 (.lst ys2)) pp (.dK (pwK pw))) ys2 (L.map pwD) := by
      refine pw_keep (fun b zs e => ?_) tL
      have nbp : b ≠ pp := fun z => by rw [z, cut_at] at e; cases e
      have e2 := cut_sub _ _ (cut_sub _ _ e)
      rw [upd_ne nbp, upd_ne (ne_of_none e2 nq2)]
      exact e2
    generalize upd (upd H10 q2 (.lst ys2)) pp (.dK (pwK pw)) = H11 at *
    refine ⟨q2, ys2, rfl, .inl ⟨.inl (.inl q11), fun t3 ht3 => ⟨(by show 3 ≤ sizeLine; decide), fun tp htp => ?_⟩⟩⟩
    have s12 : Same H11 (upd H11 t3 (.tup ys2)) := same_new _ ht3
    have t312 : (upd H11 t3 (.tup ys2)) t3 = some (.tup ys2) := upd_same
    generalize upd H11 t3 (.tup ys2) = H12 at *
    have s13 : Same H12 (upd H12 tp (.tup [.ref t1, .ref t2, .ref t3])) := same_new _ htp
    have s613 := (s11.trans s12).trans s13
    have s0 := s06.trans (s11.trans s12)
    exact k tp t1 t2 t3 _ (s0.free htp) (s0.trans s13) upd_same (.tup (s613 _ _ t16) (yT.same s613)) (.tup (s613 _ _ t26) (keys_tp _)) ⟨L, pL, .tup (s13 _ _ t312) (t11.same (s12.trans s13))⟩
end
end Fm

/-! ## K32MJ -/
set_option Elab.async false
set_option maxRecDepth 100000
set_option maxHeartbeats 8000000
namespace Fm
open PySem L2
theorem pi_listK {X : Cx} {K : PySem.W.Frag} {tg l : Expr} {tl : TE} (hl : PE X l tl) (hK : X.K = K := by rfl) : PI X tg l (iList K tl) := by
  subst hK
  exact pi_list hl
/-- what is new behind H -/
def news (H H' : Hp) : Hp := fun a => if (H a).isSome then none else H' a
theorem news_new {H H' : Hp} {a : Addr} {o : HO} (h : H' a = some o) (n : H a = none) : news H H' a = some o := by
  unfold news
  rw [n]
  exact h
theorem news_mono {H H1 H2 : Hp} (s : Same H1 H2) : Same (news H H1) (news H H2) := fun a o e => by
  unfold news at e ⊢
  cases q : (H a).isSome with
  | true => rw [q] at e; cases e
  | false =>
    rw [q] at e
    exact s _ _ e
theorem news_sub {H H' : Hp} : Same (news H H') H' := fun a o e => by
  unfold news at e
  cases q : (H a).isSome with
  | true => rw [q] at e; cases e
  | false =>
    rw [q] at e
    exact e
theorem news_none {H H' : Hp} {a : Addr} {o : HO} (h : news H H' a = some o) : H a = none := by
  unfold news at h
  cases q : H a with
  | none => rfl
  | some u => rw [q] at h; cases h
theorem news_put {H X : Hp} {r : Addr} {o : HO} : cut (news H (upd X r o)) r = cut (news H X) r := funext fun a => by
  by_cases z : a = r
  · rw [z, cut_at, cut_at]
  · rw [cut_ne z, cut_ne z]
    unfold news
    rw [upd_ne z]
theorem Bag.wide {G H : Hp} {b : Addr} (B : Bag G H b) : ∃ (cl : Addr) (l1 l2 : List V), H cl = some (.lst l1) ∧ H b = some (.lst l2) ∧ cl ≠ b ∧ Bag (cut (cut H b) cl) H b ∧ Same G (cut (cut H b) cl) := by
  obtain ⟨s, fb, cl, ns, p, g, z, c, h, e1, e2, e3, e4, r⟩ := B
  refine ⟨cl, _, _, e3, e4, e2, ⟨cut_sub.trans cut_sub, by rw [cut_ne (Ne.symm e2)]; exact cut_at, cl, ns, p, g, z, c, h, cut_at, e2, e3, e4, r⟩, same_cut (same_cut s fb) e1⟩
theorem unks_perm {rs rs2 : List PRow} (h : rs.Perm rs2) {s : Str} : s ∈ unks rs ↔ s ∈ unks rs2 := by
  rw [unks_mem, unks_mem]
  exact ⟨fun ⟨r, m, q⟩ => ⟨r, h.mem_iff.mp m, q⟩, fun ⟨r, m, q⟩ => ⟨r, h.mem_iff.mpr m, q⟩⟩
/-- the strings of symbols -/
def strsK : List Key → List Str
  | [] => []
  | .inl _ :: ks => strsK ks
  | .inr s :: ks => s :: strsK ks
theorem strsK_app : ∀ a b : List Key, strsK (a ++ b) = strsK a ++ strsK b
  | [], _ => rfl
  | .inl _ :: a, b => strsK_app a b
  | .inr s :: a, b => by
    show s :: strsK (a ++ b) = s :: (strsK a ++ strsK b)
    rw [strsK_app a b]
theorem strsK_len : ∀ a : List Key, (strsK a).length ≤ a.length
  | [] => Nat.le_refl _
  | .inl _ :: a => Nat.le_succ_of_le (strsK_len a)
  | .inr _ :: a => Nat.succ_le_succ (strsK_len a)
theorem strsK_mem : ∀ {a : List Key} {s : Str}, s ∈ strsK a → (Sum.inr s : Key) ∈ a
  | .inl _ :: a, s, h => List.mem_cons_of_mem _ (strsK_mem (a := a) h)
  | .inr t :: a, s, h => by
    rcases List.mem_cons.mp (show s ∈ t :: strsK a from h) with rfl | h
    · exact List.mem_cons_self
    · exact List.mem_cons_of_mem _ (strsK_mem h)
theorem cut_comm {H : Hp} {a b : Addr} : cut (cut H a) b = cut (cut H b) a := funext fun c => by
  by_cases h1 : c = a
  · subst h1
    by_cases h2 : c = b
    · rw [h2]
    · rw [cut_ne h2, cut_at, cut_at]
  · by_cases h2 : c = b
    · subst h2
      rw [cut_at, cut_ne h1, cut_at]
    · rw [cut_ne h2, cut_ne h1, cut_ne h1, cut_ne h2]
theorem PatAt.cutL {CP : Addr} {H : Hp} {x h : Addr} {l : List V} {rs : List PRow} {g : List Key} {us : List Str} {pw : List (Str × Int)} (p : PatAt CP H x rs g us pw) (e : H h = some (.lst l)) : PatAt CP (cut H h) x rs g us pw := by
  obtain ⟨dx, v1, v2, v3, h0, h1, h2, L, hL, h3⟩ := p
  have nx : x ≠ h := fun z => by rw [z, e] at h0; cases h0
  have e2 : (cut H x) h = some (.lst l) := by rw [cut_ne (Ne.symm nx)]; exact e
  refine ⟨dx, v1, v2, v3, by rw [cut_ne nx]; exact h0, ?_, ?_, L, hL, ?_⟩
  · rw [cut_comm]
    refine h1.cut e2 (noLs_all fun d m => ?_)
    obtain ⟨r, _, rfl⟩ := List.mem_map.mp m
    show (true && (noLs (r.2.map kD) && true)) = true
    rw [noLs_all fun d m => by
      obtain ⟨k, _, rfl⟩ := List.mem_map.mp m
      cases k <;> rfl]
    rfl
  · rw [cut_comm]
    exact h2.cut e2 (noLs_all fun d m => by
      obtain ⟨k, _, rfl⟩ := List.mem_map.mp m
      cases k <;> rfl)
  · rw [cut_comm]
    exact h3.cut e2 (noLs_all fun d m => by
      obtain ⟨k, _, rfl⟩ := List.mem_map.mp m
      rfl)
theorem Bag.wide2 {G H H' : Hp} {b : Addr} (B : Bag G H b) (s : Same H H') : ∃ (cl : Addr) (l1 l2 : List V), H' cl = some (.lst l1) ∧ H' b = some (.lst l2) ∧ cl ≠ b ∧ Bag (cut (cut H' b) cl) H' b ∧ Same G (cut (cut H' b) cl) ∧ Same (news H H') (cut (cut H' b) cl) := by
  obtain ⟨sf, fb, cl, ns, p, g, z, c, h, e1, e2, e3, e4, r⟩ := B
  have y3 := s _ _ e3
  have y4 := s _ _ e4
  refine ⟨cl, _, _, y3, y4, e2, ⟨cut_sub.trans cut_sub, by rw [cut_ne (Ne.symm e2)]; exact cut_at, cl, ns, p, g, z, c, h, cut_at, e2, y3, y4, r⟩, same_cut (same_cut (sf.trans s) fb) e1, same_cut (same_cut news_sub ?_) ?_⟩
  · cases q : news H H' b with
    | none => rfl
    | some o =>
      have := news_none q
      rw [e4] at this
      cases this
  · cases q : news H H' cl with
    | none => rfl
    | some o =>
      have := news_none q
      rw [e3] at this
      cases this
theorem cut_frz {G : Hp} {rd : Addr} {o : HO} : Same (cut G rd) (upd G rd o) := fun a u e => by
  have n : a ≠ rd := fun z => by rw [z, cut_at] at e; cases e
  rw [cut_ne n] at e
  rw [upd_ne n]
  exact e
theorem pat_make {CP : Addr} {H : Hp} {px pdx po : Addr} {v g : V} {b c : Bool} {rs : List PRow} {ks : List Key} {pw : List (Str × Int)} {R : Hp → Prop} {E : XK} (nx : H px = none) (nd : H pdx = none) (ne : pdx ≠ px) (tv : Tp H v (rowsD b rs)) (tg : Tp H g (seqD c (ks.map kD))) (hp : H po = some (.dK (pwK pw))) (pok : PwOk pw (unks rs)) (ok : RsOk rs) (l3 : ks.length ≤ 3) (oks : ∀ k ∈ ks, okSy k) (kn : Known (unks rs) ks)
    (k : ∀ H', Same H H' → PatAt CP H' px (named2 rs) (ks.map (renK (unks rs))) (unks rs) pw → R H') :
    spPatI CP [.ref px, v, g, .ref po] (upd (upd H pdx (.own px)) px (.ins CP pdx [])) (fun z H' => z = .non ∧ R H') E := by
  have s1 : Same H (upd (upd H pdx (.own px)) px (.ins CP pdx [])) := fun a o e => by
    rw [upd_ne (ne_of_none e nx), upd_ne (ne_of_none e nd)]
    exact e
  have sc := same_cut s1 nx
  refine ⟨px, pdx, po, v, g, b, c, rs, ks, pw, rfl, upd_same, tv.same sc, tg.same sc, s1 _ _ hp, pok, ok, l3, oks, kn, fun H' X pat => ⟨rfl, k H' (fun a o e => X a o (ne_of_none e nx) (s1 _ _ e)) pat⟩⟩
section
variable {P : Program} {w : World} {K : PySem.W.Frag} {mg : Str → Option Value} {base : Heap} {CS CT CR CN CM : Addr}
/-- a list of things in another order -/
def spShuffled : Sp := fun vs H Q _ => ∃ (F : Hp) (b a : Addr) (xs : List V), vs = [.ref b, .ref a] ∧ Bag F H b ∧ F a = some (.lst xs) ∧ xs.length ≤ 100 ∧ ∀ (p : Addr) (ys : List V) (F' H' : Hp), ys.Perm xs → Bag F' H' b → Same F F' → F' p = some (.lst ys) → H p = none → Q (.ref p) H'
abbrev s_l_shuffled : Stmt := topS 43
abbrev sc_l_shuffledN : List Str := ["_law_bag_here", "_law_things", "_law_left", "_law_found", "_law_k"]
abbrev ps_l_shuffled : List Str := ["_law_bag_here", "_law_things"]
theorem sc_l_shuffled : FnScope sc_l_shuffledN ps_l_shuffled (defScope s_l_shuffled) := ⟨rfl, rfl, rfl, by decide +kernel, rfl, by decide +kernel, by decide +kernel⟩
theorem ok_l_shuffled {f : Addr} {fd : FuncData} (F : Fun K "_law_shuffled" "_law_shuffled" s_l_shuffled f fd) (T : Txt K mg CS) (D_l_pick : Df P w K mg base "_law_pick" 1 ps_l_pick spPick) : FnOk P w K mg base CX0 2 f fd ps_l_shuffled spShuffled := by
  refine F.ok sc_l_shuffled (fun vs H Q E h => ?_) (fun cdv A outer s H vs Q E hr h => ?_)
  · obtain ⟨_, _, _, _, rfl, _⟩ := h
    rfl
  · obtain ⟨F0, b, a, xs, rfl, B, ha, l100, k⟩ := h
    refine ⟨_, (pss_cons (ps_set (i := 2) sc_l_shuffled.nd rfl (Or.inl rfl) (pe_callTy call_list_of (by rfl) T.n_list (by decide +kernel) (pa_cons (pv 1) pa_nil)))
  (pss_cons (ps_set (i := 3) sc_l_shuffled.nd rfl (Or.inl rfl) (pe_lst pa_nil))
  (pss_cons (ps_for PassesOwn.never rfl (pi_range1 (by rfl) T.n_range (pa_cons (pe_callB call_len_seq (by rfl) T.n_len (by decide +kernel) (pa_cons (pv 1) pa_nil)) pa_nil)) (pg_name (i := 4) sc_l_shuffled.nd rfl (Or.inl rfl))
    (pss_one (ps_expr (pe_bm PySem.F.plainAttrs_list PySem.F.slot_list_append PySem.F.type_list_append mt_append (pv 3) (pa_cons (pe_bm PySem.F.plainAttrs_list PySem.F.slot_list_pop PySem.F.type_list_pop mt_popAt (pv 2) (pa_cons (pe_d D_l_pick (hr.mono (by decide)) (pa_cons (pv 0) (pa_cons (pe_callB call_len_seq (by rfl) T.n_len (by decide +kernel) (pa_cons (pv 2) pa_nil)) pa_nil))) pa_nil)) pa_nil)))))
  (pss_one (ps_ret (pv 3)))))), ?_⟩
    refine ⟨_, rfl, a, xs, rfl, .inl (.inl (.inl (B.fh _ _ ha))), fun l hl => ?_⟩
    have f0 : Fl F0 F0 H b := ⟨Same.refl _, B⟩
    have gl := (f0.free hl).2
    have f1 := f0.alloc (.lst xs) hl
    have nal : a ≠ l := ne_of_none ha gl
    have l1 : (upd F0 l (.lst xs)) l = some (.lst xs) := upd_same
    have a1 : (upd F0 l (.lst xs)) a = some (.lst xs) := by rw [upd_ne nal]; exact ha
    have sH1 : Same H (upd H l (.lst xs)) := same_new _ hl
    generalize upd F0 l (.lst xs) = F1 at *
    generalize upd H l (.lst xs) = H1 at *
    refine ⟨(by show 0 ≤ sizeLine; decide), fun p hp => ?_⟩
    have gp := (f1.free hp).2
    have nlp : l ≠ p := ne_of_none l1 (f1.free hp).1
    have nap : a ≠ p := ne_of_none a1 (f1.free hp).1
    have hp0 : H p = none := sH1.free hp
    have f2 := f1.alloc (.lst []) hp
    have l2 : (upd F1 p (.lst [])) l = some (.lst xs) := by rw [upd_ne nlp]; exact l1
    have p2 : (upd F1 p (.lst [])) p = some (.lst []) := upd_same
    have a2 : (upd F1 p (.lst [])) a = some (.lst xs) := by rw [upd_ne nap]; exact a1
    clear l1 a1 f1 f0
    generalize upd F1 p (.lst []) = F2 at *
    generalize upd H1 p (.lst []) = H2 at *
    refine ⟨_, rfl, a, xs, rfl, .inl (.inl (.inl (f2.at a2))), (xs.length : Int), rfl, by omega, by omega, ?_⟩
    refine for_range (lo := 0) (n := (xs.length : Int).toNat) (fun i σ H' => ∃ (F' : Hp) (ls ys : List V) (v4 : Option V), σ = [some (.ref b), some (.ref a), some (.ref l), some (.ref p), v4] ∧ Fl F0 F' H' b ∧ F' l = some (.lst ls) ∧ F' p = some (.lst ys) ∧ (ys ++ ls).Perm xs ∧ ys.length = i)
      ⟨F2, xs, [], _, rfl, f2, l2, p2, .refl _, rfl⟩ ?_ ?_
    · rintro i σ H3 hi ⟨F3, ls, ys, v4, rfl, f3, l3, p3, pm, ly⟩
      have ll : ys.length + ls.length = xs.length := by rw [← List.length_append]; exact pm.length_eq
      refine ⟨_, rfl, .inl ⟨rfl, _, .inl (.inl (f3.at p3))⟩, _, rfl, .inl ⟨rfl, _, .inl (.inl (f3.at l3))⟩, _, rfl, _, rfl, l, ls, rfl, .inl (.inl (.inl (f3.at l3))), F3, b, (ls.length : Int), rfl, by omega, by omega, f3.bag, fun r H4 r0 r1 B4 => ?_⟩
      obtain ⟨j, rfl⟩ : ∃ j : Nat, r = (j : Int) := ⟨r.toNat, by omega⟩
      have hj : ls[j]? = some (ls[j]'(by omega)) := List.getElem?_eq_getElem _
      generalize hv : ls[j]'(by omega) = v at hj
      have f4 := f3.on B4
      have hsi : seqIndex? ((j : Nat) : Int) ls.length = some j := by
        have hjl : j < ls.length := by omega
        have h0 : ¬ ((j : Nat) : Int) < 0 := by omega
        simp [seqIndex?, hjl, h0]
      refine ⟨l, ls, (j : Int), j, v, rfl, rfl, f4.at l3, by omega, by omega, hsi, hj, ?_⟩
      have f5 := f4.put (.lst (ls.eraseIdx j)) gl l3
      have l5 : (upd F3 l (.lst (ls.eraseIdx j))) l = some (.lst (ls.eraseIdx j)) := upd_same
      have p5 : (upd F3 l (.lst (ls.eraseIdx j))) p = some (.lst ys) := by rw [upd_ne (Ne.symm nlp)]; exact p3
      refine ⟨p, ys, v, rfl, rfl, f5.at p5, Nat.lt_of_le_of_lt (show ys.length ≤ 100 by omega) (by decide), ?_⟩
      refine ⟨_, ls.eraseIdx j, ys ++ [v], _, rfl, f5.put _ gp p5, by rw [upd_ne nlp]; exact l5, upd_same, ?_, by rw [List.length_append, ly]; rfl⟩
      refine List.Perm.trans ?_ pm
      rw [List.append_assoc]
      refine List.Perm.append_left _ ?_
      show (v :: ls.eraseIdx j).Perm ls
      have hjl : j < ls.length := by omega
      have e := List.eraseIdx_eq_take_drop_succ ls j
      rw [e]
      have e2 : ls = ls.take j ++ v :: ls.drop (j + 1) := by
        obtain ⟨_, q⟩ := List.getElem?_eq_some_iff.mp hj
        rw [← q, List.getElem_cons_drop, List.take_append_drop]
      conv => rhs; rw [e2]
      exact List.perm_middle.symm
    · rintro σ H3 ⟨F3, ls, ys, v4, rfl, f3, l3, p3, pm, ly⟩
      have ll : ys.length + ls.length = xs.length := by rw [← List.length_append]; exact pm.length_eq
      have e : ls = [] := List.length_eq_zero_iff.mp (by omega)
      subst e
      rw [List.append_nil] at pm
      exact ⟨_, rfl, k p ys F3 H3 pm f3.bag f3.gf p3 hp0⟩
end
end Fm

/-! ## K32MK -/
set_option Elab.async false
set_option maxRecDepth 100000
set_option maxHeartbeats 8000000
namespace Fm
open PySem L2
def scFolded : Scope := { kind := .function, names := [((".0" : Str), .local), (("_law_table" : Str), .local), (("_law_symbols" : Str), .local), (("_law_names" : Str), .cell)], isGenerator := false, isCoroutine := false }
noncomputable instance decKey (k : Key) (xs : List Key) : Decidable (k ∈ xs) := Classical.propDecidable _
theorem inV_key (k : Key) (xs : List Key) : inV (kV k) (xs.map kV) = decide (k ∈ xs) := by
  have e : ∀ a b : Key, eqV (kV a) (kV b) = decide (a = b) := by
    intro a b
    cases a with
    | inl x =>
      cases b with
      | inl y =>
        rw [Bool.eq_iff_iff, decide_eq_true_eq]
        show (x == y) = true ↔ _
        rw [beq_iff_eq]
        exact ⟨fun z => by rw [z], fun z => Sum.inl.inj z⟩
      | inr y => rfl
    | inr x =>
      cases b with
      | inl y => rfl
      | inr y =>
        rw [Bool.eq_iff_iff, decide_eq_true_eq]
        show (x == y) = true ↔ _
        rw [beq_iff_eq]
        exact ⟨fun z => by rw [z], fun z => Sum.inr.inj z⟩
  unfold inV
  rw [List.any_map, Bool.eq_iff_iff, List.any_eq_true, decide_eq_true_eq]
  constructor
  · rintro ⟨y, my, h⟩
    have z : eqV (kV y) (kV k) = true := h
    rw [e, decide_eq_true_eq] at z
    rw [← z]
    exact my
  · intro m
    exact ⟨k, m, by show eqV (kV k) (kV k) = true; rw [e, decide_eq_true rfl]⟩
theorem flat_keys (xs : List Key) : (xs.map kV).all flatV = true := by
  rw [List.all_map]
  exact List.all_eq_true.mpr fun k _ => by cases k <;> rfl
/-- what a symbol is turned into -/
def phi (m : IG) (k : Key) : Key := (getG m k).getD k
def phiR (m : IG) (r : PRow) : PRow := (r.1, r.2.map (phi m))
theorem getG_mem {m : IG} {k j : Key} (h : getG m k = some j) : ∃ p ∈ m, p.2 = j := by
  unfold getG at h
  obtain ⟨p, hp, e⟩ := Option.map_eq_some_iff.mp h
  exact ⟨p, List.mem_of_find?_eq_some hp, e⟩
theorem phi_ok {m : IG} (h : ∀ p ∈ m, okSy p.2) {k : Key} (hk : okSy k) : okSy (phi m k) := by
  unfold phi
  cases e : getG m k with
  | none => exact hk
  | some j =>
    obtain ⟨p, mp, ep⟩ := getG_mem e
    rw [← ep]
    exact h p mp
theorem fit_phi {ts : List Tab} {rs : List PRow} {m : IG} (h : RsFit ts rs) (hm : ∀ p ∈ m, okSy p.2) : RsFit ts (rs.map (phiR m)) := by
  refine ⟨fun r mr => ?_, fun r mr k mk => ?_⟩
  · obtain ⟨q, mq, rfl⟩ := List.mem_map.mp mr
    obtain ⟨t, mt, e1, e2⟩ := h.tab q mq
    exact ⟨t, mt, e1, by show (q.2.map _).length = _; rw [List.length_map]; exact e2⟩
  · obtain ⟨q, mq, rfl⟩ := List.mem_map.mp mr
    obtain ⟨k0, mk0, rfl⟩ := List.mem_map.mp (show k ∈ q.2.map (phi m) from mk)
    exact phi_ok hm (h.oks q mq k0 mk0)
theorem phi_val (m : IG) (k : Key) : (valV (imG m) k).getD (kV k) = kV (phi m k) := by
  rw [imG_val]
  unfold phi
  cases getG m k <;> rfl
section
variable {P : Program} {w : World} {K : PySem.W.Frag} {mg : Str → Option Value} {base : Heap} {CS CT CR CN CM : Addr}
def spFolded : Sp := fun vs H Q _ => ∃ (F : Hp) (b rp gp op : Addr) (ts : List Tab) (rs os : List PRow) (gk : List Key), vs = [.ref b, .ref rp, .ref gp, .ref op] ∧ Bag F H b ∧ Tp F (.ref rp) (rowsD true rs) ∧ Tp F (.ref gp) (seqD true (gk.map kD)) ∧ Tp F (.ref op) (rowsD true os) ∧ RsFit ts rs ∧ RsFit ts os ∧ RsFew rs ∧ RsFew os ∧ gk.length ≤ 3 ∧ (∀ k ∈ gk, okSy k) ∧
  ∀ (tp r2 g2 : Addr) (ys : List V) (rs2 : List PRow) (gk2 : List Key) (G' F' H' : Hp), Fl G' F' H' b → Same F G' → F' tp = some (.tup [.ref r2, .ref g2]) → F' r2 = some (.lst ys) → F' g2 = some (.lst (gk2.map kV)) → G' r2 = none → G' g2 = none → r2 ≠ g2 → TpAll G' ys (rs2.map (prowD true)) → RsFit ts rs2 → rs2.length = rs.length → gk2.length = gk.length → (∀ k ∈ gk2, okSy k) → Q (.ref tp) H'
abbrev s_l_folded : Stmt := topS 48
abbrev sc_l_foldedN : List Str := ["_law_bag_here", "_law_rows", "_law_group", "_law_others", "_law_names", "_law_used", "_law_table", "_law_symbols", "_law_symbol", "_law_made"]
abbrev ps_l_folded : List Str := ["_law_bag_here", "_law_rows", "_law_group", "_law_others"]
theorem sc_l_folded : FnScope sc_l_foldedN ps_l_folded (defScope s_l_folded) := ⟨rfl, rfl, rfl, by decide +kernel, rfl, by decide +kernel, by decide +kernel⟩
theorem ok_l_folded {f : Addr} {fd : FuncData} (F : Fun K "_law_folded" "_law_folded" s_l_folded f fd) (T : Txt K mg CS) (D_l_pick : Df P w K mg base "_law_pick" 1 ps_l_pick spPick) : FnOk P w K mg base CX0 2 f fd ps_l_folded spFolded := by
  refine F.ok sc_l_folded (fun vs H Q E h => ?_) (fun cdv A outer s H vs Q E hr h => ?_)
  · obtain ⟨_, _, _, _, _, _, _, _, _, rfl, _⟩ := h
    rfl
  · obtain ⟨F0, b, rp, gp, op, ts, rs, os, gk, rfl, B, tr, tg, to, fit, fito, few, fewo, l3, ogk, k⟩ := h
    refine ⟨_, (pss_cons (ps_set (i := 4) sc_l_folded.nd rfl (Or.inr rfl) pe_dnewK)
  (pss_cons (ps_set (i := 5) sc_l_folded.nd rfl (Or.inr rfl) (pe_lst pa_nil))
  (pss_cons (ps_for PassesOwn.never rfl (pi_list (pe_op op_cat (pv 1) (pv 3))) (pg_tup (by rfl) (pgs_cons (pg_name (i := 6) sc_l_folded.nd rfl (Or.inl rfl)) (pgs_cons (pg_name (i := 7) sc_l_folded.nd rfl (Or.inl rfl)) pgs_nil)))
    (pss_one (ps_set (i := 5) sc_l_folded.nd rfl (Or.inr rfl) (pe_op op_cat (pv 5) (pe_lc (own := [("_law_symbol", 8)]) (g := gName 8) (tt := _) (by rfl) sc_l_folded.nd (pi_list (pv 7)) (blkOk_by (own := [("_law_symbol", 8)]) (N := sc_l_foldedN) (sc := defScope s_l_folded) (by decide +kernel)) (fun _ _ _ _ _ => pg_name (i := 8) sc_l_folded.nd rfl (Or.inl rfl)) (fun _ _ _ _ _ => (pts_one (pt_cmpR (opK_notin (K := K)) (pv 8) (pv 5) (by rfl)))) (fun _ _ _ _ _ => (pv 8)))))))
  (pss_cons (ps_for PassesOwn.never rfl (pi_list (pv 1)) (pg_tup (by rfl) (pgs_cons (pg_name (i := 6) sc_l_folded.nd rfl (Or.inl rfl)) (pgs_cons (pg_name (i := 7) sc_l_folded.nd rfl (Or.inl rfl)) pgs_nil)))
    (pss_one (ps_for PassesOwn.never rfl (pi_list (pv 7)) (pg_name (i := 8) sc_l_folded.nd rfl (Or.inl rfl))
      (pss_one (ps_if (PW.pt (pw_and (pt_val (pe_callB call_isi (by rfl) T.n_isinstance (by decide +kernel) (pa_cons (pv 8) (pa_cons (pe_bltn (v := .ty "str") (by rfl) T.n_str (by decide +kernel) rfl) pa_nil)))) (pw_and1 (pt_cmp (pc_dnotin (Nat.lt_of_le_of_lt (Nat.add_le_add_left (by decide) _) hr.units) (pv 8) (pv 4)) (by rfl)))))
        (pss_one (ps_asg (pe_ifExp (pt_cmpR op_eq (pe_d D_l_pick (hr.mono (by decide)) (pa_cons (pv 0) (pa_cons pe_int pa_nil))) pe_int (nomark _)) (pv 8) (pe_ix ix_list (pv 5) (pe_d D_l_pick (hr.mono (by decide)) (pa_cons (pv 0) (pa_cons (pe_callB call_len_seq (by rfl) T.n_len (by decide +kernel) (pa_cons (pv 5) pa_nil)) pa_nil))) (fun _ _ => rfl))) (pg_sub (pv 4) (pv 8) (set_dict (Nat.lt_of_le_of_lt (Nat.add_le_add_left (by decide) _) hr.units)))))
        pss_nil)))))
  (pss_cons (ps_setLc (i := 9) (own := [("_law_table", 6), ("_law_symbols", 7)]) (g := gTup K 2 (gCons (gName 6) (gCons (gName 7) gNil))) (tt := tYes) (by rfl) sc_l_folded.nd rfl rfl (sw_true rfl rfl rfl (by decide +kernel)) (pi_list (pv 1)) (blkOk_by (own := [("_law_table", 6), ("_law_symbols", 7)]) (N := sc_l_foldedN) (sc := defScope s_l_folded) (by decide +kernel)) (fun _ _ _ _ _ => pg_tup (by rfl) (pgs_cons (pg_name (i := 6) sc_l_folded.nd rfl (Or.inl rfl)) (pgs_cons (pg_name (i := 7) sc_l_folded.nd rfl (Or.inl rfl)) pgs_nil))) (fun _ _ _ _ _ => pts_nil) (fun _ _ _ _ _ => (pe_tup (pa_cons (pv 6) (pa_cons (pe_lc (own := [("_law_symbol", 8)]) (g := gName 8) (tt := tYes) (by rfl) sc_l_folded.nd (pi_listK (K := K) (pv 7)) (blkOk_by (own := [("_law_symbol", 8)]) (N := sc_l_foldedN) (sc := scFolded) (by decide +kernel)) (fun _ _ _ _ _ => pg_name (i := 8) sc_l_folded.nd rfl (Or.inl rfl)) (fun _ _ _ _ _ => pts_nil) (fun _ _ _ _ _ => (pe_dget2 (Nat.lt_of_le_of_lt (Nat.add_le_add_left (by decide) _) hr.units) (pv 4) (pv 8) (pv 8) ⟨rfl, rfl, rfl, rfl⟩))) pa_nil)))))
  (pss_one (ps_ret (pe_tup (pa_cons (pv 9) (pa_cons (pe_lc (own := [("_law_symbol", 8)]) (g := gName 8) (tt := tYes) (by rfl) sc_l_folded.nd (pi_list (pv 2)) (blkOk_by (own := [("_law_symbol", 8)]) (N := sc_l_foldedN) (sc := defScope s_l_folded) (by decide +kernel)) (fun _ _ _ _ _ => pg_name (i := 8) sc_l_folded.nd rfl (Or.inl rfl)) (fun _ _ _ _ _ => pts_nil) (fun _ _ _ _ _ => (pe_dget2 (Nat.lt_of_le_of_lt (Nat.add_le_add_left (by decide) _) hr.units) (pv 4) (pv 8) (pv 8) ⟨rfl, rfl, rfl, rfl⟩))) pa_nil)))))))))), ?_⟩
    obtain ⟨_, rxs, e0, hrp, tR⟩ := (show Tp F0 (.ref rp) (.list (rs.map (prowD true))) from tr).list
    cases e0
    obtain ⟨_, gxs, e1, hgp, tG⟩ := (show Tp F0 (.ref gp) (.list (gk.map kD)) from tg).list
    cases e1
    obtain ⟨_, oxs, e2, hop, tO⟩ := (show Tp F0 (.ref op) (.list (os.map (prowD true))) from to).list
    cases e2
    have egx := keys_inv tG
    subst egx
    have lr := tR.len
    rw [List.length_map] at lr
    have lo := tO.len
    rw [List.length_map] at lo
    have l6 := few.1
    have o6 := fewo.1
    -- all symbols
    refine fun nd hnd => ⟨(by show 0 ≤ sizeLine; decide), fun ua hua => ?_⟩
    have B1 := B.new (.dK (imG [])) hnd
    have nd1 : (upd F0 nd (.dK (imG []))) nd = some (.dK (imG [])) := upd_same
    have sF1 : Same F0 (upd F0 nd (.dK (imG []))) := same_new _ (B.fh.free hnd)
    have hua0 := hua
    have s12 : Same (upd H nd (.dK [])) (upd (upd H nd (.dK [])) ua (.lst [])) := same_new _ hua
    have ua2 : (upd (upd H nd (.dK [])) ua (.lst [])) ua = some (.lst (([] : List Key).map kV)) := upd_same
    have ndF : F0 nd = none := B.fh.free hnd
    clear hnd
    generalize upd F0 nd (.dK (imG [])) = F1 at *
    have B1' : Bag F1 (upd H nd (.dK [])) b := B1
    clear B1
    generalize upd (upd H nd (.dK [])) ua (.lst []) = H2 at *
    generalize upd H nd (.dK []) = H1 at *
    have s02 : Same F0 H2 := (sF1.trans B1'.fh).trans s12
    refine ⟨_, rfl, _, rfl, rp, op, rxs, oxs, rfl, rfl, s02 _ _ hrp, s02 _ _ hop, Nat.le_trans (show _ ≤ 100 by omega) (by decide), fun cp hcp => ?_⟩
    have s23 : Same H2 (upd H2 cp (.lst (rxs ++ oxs))) := same_new _ hcp
    have cp3 : (upd H2 cp (.lst (rxs ++ oxs))) cp = some (.lst (rxs ++ oxs)) := upd_same
    have ua3 := s23 _ _ ua2
    have s13 := s12.trans s23
    generalize upd H2 cp (.lst (rxs ++ oxs)) = H3 at *
    have s03 := s02.trans s23
    have tC : TpAll F0 (rxs ++ oxs) ((rs ++ os).map (prowD true)) := by
      rw [List.map_append]
      exact tR.app tO
    have lc : (rxs ++ oxs).length = (rs ++ os).length := by rw [tC.len, List.length_map]
    have l12 : (rs ++ os).length ≤ 12 := by rw [List.length_append]; omega
    have few12 : ∀ r ∈ rs ++ os, r.2.length ≤ 4 := fun r m => by
      rcases List.mem_append.mp m with m | m
      · exact few.2 r m
      · exact fewo.2 r m
    refine ⟨cp, rfl, ⟨_, .inl (.inl cp3)⟩, ?_⟩
    refine for_it walk_list (fun i σ' H' => ∃ (v6 v7 : Option V) (a : Addr) (us : List Key), σ' = [some (.ref b), some (.ref rp), some (.ref gp), some (.ref op), some (.ref nd), some (.ref a), v6, v7, none, none] ∧ Same H1 H' ∧ Same H3 H' ∧ H1 a = none ∧ H' a = some (.lst (us.map kV)) ∧ us.length ≤ 4 * i ∧ (∀ r ∈ (rs ++ os).take i, ∀ k ∈ r.2, k ∈ us) ∧ ∀ k ∈ us, ∃ r ∈ rs ++ os, k ∈ r.2)
      ⟨_, _, ua, [], rfl, s13, Same.refl _, hua0, ua3, Nat.zero_le _, (fun r m => by cases m), fun k m => by cases m⟩ (fun i σ' H' _ z => by obtain ⟨_, _, _, _, _, _, z, _⟩ := z; exact .inl (.inl (z _ _ cp3))) ?_ ?_
    · rintro i x σ' H4 H5 hi ⟨v6, v7, a, us, rfl, s14, s34, a1, a4, lus, inn, sub⟩ ⟨rfl, hx⟩
      obtain ⟨c, hc, hxc⟩ := tC.at hx
      rw [List.getElem?_map] at hc
      obtain ⟨r, hr0, rfl⟩ := Option.map_eq_some_iff.mp hc
      have mr := List.mem_of_getElem? hr0
      have l4 := few12 r mr
      obtain ⟨ra, sy, rfl, hra, sxs, hsx, _, tsq⟩ := row_at hxc
      obtain ⟨_, _, e1, hsy, tk⟩ := (show Tp F0 (.ref sy) (.list (r.2.map kD)) from tsq).list
      cases e1
      have ekk := keys_inv tk
      subst ekk
      have s04 := s03.trans s34
      refine ⟨ra, _, rfl, .inl (.inl (s04 _ _ hra)), rfl, _, _, rfl, _, _, rfl, rfl, ?_⟩
      have hsy4 := s04 _ _ hsy
      refine ⟨_, rfl, _, rfl, sy, rfl, ⟨_, .inl (.inl hsy4)⟩, fun D hD => ?_⟩
      refine lc_it walk_list (fun j H' => Same H5 H' ∧ H' D = some (.lst (((r.2.take j).filter fun k => decide (k ∉ us)).map kV))) ⟨same_new _ hD, upd_same⟩ (fun j H' _ z => .inl (.inl (z.1 _ _ hsy4))) ?_ ?_
      · rintro j y H6 H7 hj ⟨s6, d6⟩ ⟨rfl, hy⟩
        rw [List.getElem?_map] at hy
        obtain ⟨kk, hk, rfl⟩ := Option.map_eq_some_iff.mp hy
        have fk : flatV (kV kk) = true := by cases kk <;> rfl
        refine ⟨rfl, _, rfl, _, rfl, a, _, rfl, .inl (.inl (.inl (s6 _ _ a4))), fk, flat_keys us, ?_⟩
        by_cases m : kk ∈ us
        · rw [inV_key, decide_eq_true m]
          refine ⟨_, rfl, iteF ⟨s6, ?_⟩⟩
          rw [List.take_add_one, hk, List.filter_append, show (some kk).toList = [kk] from rfl, List.filter_cons_of_neg (by simp [m]), List.filter_nil, List.append_nil]
          exact d6
        · rw [inV_key, decide_eq_false m]
          refine ⟨_, rfl, iteT ⟨_, rfl, _, d6, ?_, same_put s6 _ hD, ?_⟩⟩
          · rw [List.length_map]
            have q := List.length_filter_le (fun k => decide (k ∉ us)) (r.2.take j)
            rw [List.length_take] at q
            exact Nat.lt_of_le_of_lt (show _ ≤ 100 by omega) (by decide)
          · rw [upd_same, List.take_add_one, hk, List.filter_append, show (some kk).toList = [kk] from rfl, List.filter_cons_of_pos (by simp [m]), List.filter_nil, List.map_append]
            rfl
      rintro H6 ⟨s6, d6⟩
      rw [List.length_map, List.take_length] at d6
      have lf := List.length_filter_le (fun k => decide (k ∉ us)) r.2
      refine ⟨a, D, _, _, rfl, rfl, s6 _ _ a4, d6, ?_, fun a2 ha2 => ?_⟩
      · rw [List.length_map, List.length_map]
        exact Nat.le_trans (show _ ≤ 1000 by rw [lc] at hi; omega) (by decide)
      have s7 : Same H6 (upd H6 a2 (.lst (us.map kV ++ (r.2.filter fun k => decide (k ∉ us)).map kV))) := same_new _ ha2
      refine ⟨_, _, a2, us ++ r.2.filter fun k => decide (k ∉ us), rfl, (s14.trans s6).trans s7, (s34.trans s6).trans s7, (s14.trans s6).free ha2, by rw [upd_same, List.map_append], by rw [List.length_append]; omega, fun q mq kk mk => ?_, fun kk mk => ?_⟩
      · rw [List.take_add_one, hr0] at mq
        rcases List.mem_append.mp mq with mq | mq
        · exact List.mem_append_left _ (inn q mq kk mk)
        · have e2 : q = r := by simpa using mq
          subst e2
          by_cases m : kk ∈ us
          · exact List.mem_append_left _ m
          · exact List.mem_append_right _ (List.mem_filter.mpr ⟨mk, decide_eq_true m⟩)
      · rcases List.mem_append.mp mk with mk | mk
        · exact sub kk mk
        · exact ⟨r, mr, (List.mem_filter.mp mk).1⟩
    rintro σ' H4 ⟨v6, v7, a, us, rfl, s14, s34, a1, a4, lus, inn, sub⟩
    rw [lc, List.take_length] at inn
    rw [lc] at lus
    have oku : ∀ k ∈ us, okSy k := fun kk mk => by
      obtain ⟨r, mr, h⟩ := sub kk mk
      rcases List.mem_append.mp mr with mr | mr
      · exact fit.oks r mr kk h
      · exact fito.oks r mr kk h
    have B4 := B1'.late a1 s14 a4
    have a1F : F1 a = none := B1'.fh.free a1
    have aG : F0 a = none := sF1.free a1F
    have f4 : Fl F0 (upd F1 a (.lst (us.map kV))) H4 b := ⟨sF1.trans (same_new _ a1F), B4⟩
    have aF : (upd F1 a (.lst (us.map kV))) a = some (.lst (us.map kV)) := upd_same
    have nda : nd ≠ a := ne_of_none nd1 a1F
    have ndF4 : (upd F1 a (.lst (us.map kV))) nd = some (.dK (imG [])) := by rw [upd_ne nda]; exact nd1
    have ndG := ndF
    have l48 : us.length ≤ 48 := by omega
    clear s02 s03 s12 s13 s14 s23 s34 B1' a1 a4 cp3 ua2 ua3 hua hua0
    generalize upd F1 a (.lst (us.map kV)) = F4 at *
    have sG1 : Same F0 (upd F0 a (.lst (us.map kV))) := same_new _ aG
    have aG1 : (upd F0 a (.lst (us.map kV))) a = some (.lst (us.map kV)) := upd_same
    have ndG1 : (upd F0 a (.lst (us.map kV))) nd = none := by rw [upd_ne nda]; exact ndG
    have f5 := f4.keep aF
    clear f4
    generalize upd F0 a (.lst (us.map kV)) = G1 at *
    refine ⟨_, rfl, rp, rfl, ⟨_, .inl (.inl (f5.in (sG1 _ _ hrp)))⟩, ?_⟩
    refine for_it walk_list (fun i σ' H' => ∃ (v6 v7 v8 : Option V) (FX : Hp) (m : IG), σ' = [some (.ref b), some (.ref rp), some (.ref gp), some (.ref op), some (.ref nd), some (.ref a), v6, v7, v8, none] ∧ Fl G1 FX H' b ∧ FX nd = some (.dK (imG m)) ∧ m.length ≤ 4 * i ∧ ∀ p ∈ m, okSy p.2)
      ⟨_, _, _, F4, [], rfl, f5, ndF4, Nat.zero_le _, fun p mp => by cases mp⟩ (fun i σ' H' _ z => by obtain ⟨_, _, _, FX, _, _, f, _⟩ := z; exact .inl (.inl (f.in (sG1 _ _ hrp)))) ?_ ?_
    · rintro i x σ' H5 H6 hi ⟨v6, v7, v8, FX, m, rfl, f6, nd6, lm, okm⟩ ⟨rfl, hx⟩
      obtain ⟨c, hc, hxc⟩ := tR.at hx
      rw [List.getElem?_map] at hc
      obtain ⟨r, hr0, rfl⟩ := Option.map_eq_some_iff.mp hc
      have mr := List.mem_of_getElem? hr0
      have l4 := few.2 r mr
      obtain ⟨ra, sy, rfl, hra, sxs, hsx, _, tsq⟩ := row_at hxc
      obtain ⟨_, _, e1, hsy, tk⟩ := (show Tp F0 (.ref sy) (.list (r.2.map kD)) from tsq).list
      cases e1
      have ekk := keys_inv tk
      subst ekk
      refine ⟨ra, _, rfl, .inl (.inl (f6.in (sG1 _ _ hra))), rfl, _, _, rfl, _, _, rfl, rfl, ?_⟩
      refine ⟨_, rfl, sy, rfl, ⟨_, .inl (.inl (f6.in (sG1 _ _ hsy)))⟩, ?_⟩
      refine for_it walk_list (fun j σ' H' => ∃ (v8 : Option V) (FX : Hp) (m : IG), σ' = [some (.ref b), some (.ref rp), some (.ref gp), some (.ref op), some (.ref nd), some (.ref a), some (.str r.1), some (.ref sy), v8, none] ∧ Fl G1 FX H' b ∧ FX nd = some (.dK (imG m)) ∧ m.length ≤ 4 * i + j ∧ ∀ p ∈ m, okSy p.2)
        ⟨_, FX, m, rfl, f6, nd6, lm, okm⟩ (fun j σ' H' _ z => by obtain ⟨_, FX, _, _, f, _⟩ := z; exact .inl (.inl (f.in (sG1 _ _ hsy)))) ?_ ?_
      · rintro j y σ' H7 H8 hj ⟨v8, FX, m, rfl, f7, nd7, lm, okm⟩ ⟨rfl, hy⟩
        rw [List.length_map] at hj
        rw [List.getElem?_map] at hy
        obtain ⟨kk, hk, rfl⟩ := Option.map_eq_some_iff.mp hy
        cases kk with
        | inl z => exact ⟨_, rfl, _, _, _, _, _, rfl, .ty _, (Tp.int z).ty (K := K), kit_ty (kit_d (by simp)), _, rfl, iteF ⟨_, FX, m, rfl, f7, nd7, by omega, okm⟩⟩
        | inr s =>
          refine ⟨_, rfl, _, _, _, _, _, rfl, .ty _, (Tp.str s).ty (K := K), kit_ty (kit_d (by simp)), _, rfl, iteT ?_⟩
          refine ⟨_, rfl, _, rfl, nd, valV (imG m) (Sum.inr s), rfl, .inl ⟨_, Sum.inr s, .inl (f7.at nd7), rfl, rfl⟩, _, rfl, ?_⟩
          rw [imG_val]
          cases eg : getG m (.inr s) with
          | some j0 => exact iteF ⟨_, FX, m, rfl, f7, nd7, by omega, okm⟩
          | none =>
            refine iteT ?_
            have mu : (Sum.inr s : Key) ∈ us := inn r (List.mem_append_left _ mr) _ (List.mem_of_getElem? hk)
            have lpos : 0 < us.length := List.length_pos_of_mem mu
            have bnd : (imG m).length < sizeLine := by
              unfold imG
              rw [List.length_map]
              exact Nat.lt_of_le_of_lt (show m.length ≤ 100 by omega) (by decide)
            refine ⟨_, rfl, FX, b, 2, rfl, by decide, by decide, f7.bag, fun r1 H9 a0 a1 B9 => ⟨rfl, _, rfl, ifd (fun _ => ?_) fun _ => ?_⟩⟩
            · have f9 := f7.on B9
              refine ⟨_, rfl, _, rfl, _, rfl, nd, _, rfl, .inl ⟨_, Sum.inr s, f9.at nd7, rfl, bnd, rfl⟩, ?_⟩
              have eput : putK (imG m) (Sum.inr s) (V.str s) = imG (m ++ [(.inr s, .inr s)]) := imG_put (d := .inr s) eg
              refine ⟨_, _, m ++ [(.inr s, .inr s)], rfl, f9.put (.dK (putK (imG m) (Sum.inr s) (V.str s))) ndG1 nd7, by rw [upd_same]; exact congrArg (fun l => some (HO.dK l)) eput, by rw [List.length_append]; show m.length + 1 ≤ _; omega, fun p mp => ?_⟩
              rcases List.mem_append.mp mp with mp | mp
              · exact okm p mp
              · rw [List.mem_singleton.mp mp]
                trivial
            · refine ⟨_, rfl, _, rfl, _, rfl, a, _, rfl, .inl (.inl (.inl ((f7.on B9).in aG1))), FX, b, _, rfl, by rw [List.length_map]; omega, by rw [List.length_map]; omega, B9, fun r2 H10 c0 c1 B10 => ?_⟩
              obtain ⟨v, hv, mv⟩ := at_mem c0 c1
              obtain ⟨jk, mjk, rfl⟩ := List.mem_map.mp mv
              have f9 := f7.on B10
              refine ⟨a, _, _, _, rfl, rfl, .inl (.inl (f9.in aG1)), hv, ?_⟩
              refine ⟨_, rfl, _, rfl, nd, _, rfl, .inl ⟨_, Sum.inr s, f9.at nd7, rfl, bnd, rfl⟩, ?_⟩
              have eput : putK (imG m) (Sum.inr s) (kV jk) = imG (m ++ [(.inr s, jk)]) := imG_put (d := jk) eg
              refine ⟨_, _, m ++ [(.inr s, jk)], rfl, f9.put (.dK (putK (imG m) (Sum.inr s) (kV jk))) ndG1 nd7, by rw [upd_same]; exact congrArg (fun l => some (HO.dK l)) eput, by rw [List.length_append]; show m.length + 1 ≤ _; omega, fun p mp => ?_⟩
              rcases List.mem_append.mp mp with mp | mp
              · exact okm p mp
              · rw [List.mem_singleton.mp mp]
                exact oku jk mjk
      · rintro σ' H7 ⟨v8, FX, m, rfl, f7, nd7, lm, okm⟩
        rw [List.length_map] at lm
        exact ⟨_, _, _, FX, m, rfl, f7, nd7, by omega, okm⟩
    rintro σ' H5 ⟨v6, v7, v8, F5, m, rfl, f6, nd5, lm, okm⟩
    -- the rows
    have nd5H := f6.at nd5
    have rp5 := f6.in (sG1 _ _ hrp)
    refine ⟨_, rfl, rp, rfl, ⟨_, .inl (.inl rp5)⟩, fun D hD => ?_⟩
    refine lc_it walk_list (fun j H' => Same H5 H' ∧ ∃ ys, H' D = some (.lst ys) ∧ TpAll (cut (news H5 H') D) ys (((rs.take j).map (phiR m)).map (prowD true))) ⟨same_new _ hD, [], upd_same, .nil⟩ (fun j H' _ z => .inl (.inl (z.1 _ _ rp5))) ?_ ?_
    · rintro j y HA HB hj ⟨sA, ys, dA, tA⟩ ⟨rfl, hy⟩
      obtain ⟨c, hc, hyc⟩ := tR.at hy
      rw [List.getElem?_map] at hc
      obtain ⟨r, hr0, rfl⟩ := Option.map_eq_some_iff.mp hc
      have l4 := few.2 r (List.mem_of_getElem? hr0)
      obtain ⟨ra, sy, rfl, hra, sxs, hsx, _, tsq⟩ := row_at hyc
      obtain ⟨_, _, e1, hsy, tk⟩ := (show Tp F0 (.ref sy) (.list (r.2.map kD)) from tsq).list
      cases e1
      have ekk := keys_inv tk
      subst ekk
      have s0A : Same F0 HB := fun b o e => sA _ _ (f6.in (sG1 _ _ e))
      refine ⟨ra, _, rfl, .inl (.inl (s0A _ _ hra)), rfl, _, _, rfl, _, _, rfl, rfl, rfl, ?_⟩
      have hsyB := s0A _ _ hsy
      refine ⟨_, rfl, _, rfl, sy, rfl, ⟨_, .inl (.inl hsyB)⟩, fun D2 hD2 => ?_⟩
      refine lc_it walk_list (fun n H' => Same HB H' ∧ H' D2 = some (.lst (((r.2.take n).map (phi m)).map kV))) ⟨same_new _ hD2, upd_same⟩ (fun n H' _ z => .inl (.inl (z.1 _ _ hsyB))) ?_ ?_
      · rintro n y2 HC HD2 hn ⟨sC, dC⟩ ⟨rfl, hy2⟩
        rw [List.getElem?_map] at hy2
        obtain ⟨kk, hk, rfl⟩ := Option.map_eq_some_iff.mp hy2
        have ndC := sC _ _ (sA _ _ nd5H)
        refine ⟨rfl, _, rfl, nd, rfl, .inl ⟨_, .inl ndC⟩, _, rfl, _, rfl, valV (imG m) kk, .inl ⟨_, kk, .inl ndC, rfl, rfl⟩, ?_⟩
        rw [phi_val]
        exact ⟨_, dC, by rw [List.length_map]; exact take_lt _ (by omega), same_put sC _ hD2, by rw [upd_same, map_take _ hk, List.map_append]; rfl⟩
      rintro HC ⟨sC, dC⟩
      rw [List.length_map, List.take_length] at dC
      refine ⟨(by show 2 ≤ sizeLine; decide), fun tp htp => ?_⟩
      have sE : Same HC (upd HC tp (.tup [.str r.1, .ref D2])) := same_new _ htp
      have dAC := sC _ _ dA
      have nD2 : D2 ≠ D := fun z => by rw [z, dA] at hD2; cases hD2
      have nt : tp ≠ D := Ne.symm (ne_of_none dAC htp)
      have lys := tA.len
      rw [List.length_map, List.length_map, List.length_take] at lys
      refine ⟨ys, sE _ _ dAC, Nat.lt_of_le_of_lt (show ys.length ≤ 100 by omega) (by decide), same_put ((sA.trans sC).trans sE) _ hD, ys ++ [.ref tp], upd_same, ?_⟩
      rw [news_put, map_take _ hr0, List.map_append]
      refine TpAll.snoc (tA.same (cut_mono (news_mono (sC.trans sE)))) (.tup (xs := [.str r.1, .ref D2]) (by rw [cut_ne nt]; exact news_new upd_same ((sA.trans sC).free htp)) (.cons (.str _) (.cons (.lst (xs := (r.2.map (phi m)).map kV) ?_ (keys_tp _)) .nil)))
      rw [cut_ne nD2]
      exact news_new (sE _ _ dC) (sA.free hD2)
    rintro H6 ⟨s56, ys, d6, t6⟩
    rw [lr, List.take_length] at t6
    have nd6 := s56 _ _ nd5H
    have gp6 := s56 _ _ (f6.in (sG1 _ _ hgp))
    refine ⟨_, rfl, _, rfl, gp, rfl, ⟨_, .inl (.inl gp6)⟩, fun D3 hD3 => ?_⟩
    refine lc_it walk_list (fun n H' => Same H6 H' ∧ H' D3 = some (.lst (((gk.take n).map (phi m)).map kV))) ⟨same_new _ hD3, upd_same⟩ (fun n H' _ z => .inl (.inl (z.1 _ _ gp6))) ?_ ?_
    · rintro n y2 HC HD2 hn ⟨sC, dC⟩ ⟨rfl, hy2⟩
      rw [List.getElem?_map] at hy2
      obtain ⟨kk, hk, rfl⟩ := Option.map_eq_some_iff.mp hy2
      have ndC := sC _ _ nd6
      refine ⟨rfl, _, rfl, nd, rfl, .inl ⟨_, .inl ndC⟩, _, rfl, _, rfl, valV (imG m) kk, .inl ⟨_, kk, .inl ndC, rfl, rfl⟩, ?_⟩
      rw [phi_val]
      exact ⟨_, dC, by rw [List.length_map]; exact take_lt _ (by omega), same_put sC _ hD3, by rw [upd_same, map_take _ hk, List.map_append]; rfl⟩
    rintro H7 ⟨s67, d7⟩
    rw [List.length_map, List.take_length] at d7
    refine ⟨(by show 2 ≤ sizeLine; decide), fun tp htp => ?_⟩
    have s78 : Same H7 (upd H7 tp (.tup [.ref D, .ref D3])) := same_new _ htp
    have tp8 : (upd H7 tp (.tup [.ref D, .ref D3])) tp = some (.tup [.ref D, .ref D3]) := upd_same
    have s58 := (s56.trans s67).trans s78
    have s68 := s67.trans s78
    have htp5 : H5 tp = none := (s56.trans s67).free htp
    have D35 : H5 D3 = none := s56.free hD3
    generalize upd H7 tp (.tup [.ref D, .ref D3]) = H8 at *
    obtain ⟨cl, _, _, _, _, _, BV, s5V, sNV⟩ := f6.bag.wide2 s58
    have DV := sNV _ _ (news_new (s68 _ _ d6) hD)
    have D3V := sNV _ _ (news_new (s78 _ _ d7) D35)
    have tpV := sNV _ _ (news_new tp8 htp5)
    have nDD : D ≠ D3 := ne_of_none d6 hD3
    have s0V : Same F0 (cut (cut H8 b) cl) := fun c o e => s5V _ _ (f6.gf _ _ (sG1 _ _ e))
    have F0D : F0 D = none := by
      cases q : F0 D with
      | none => rfl
      | some o => rw [f6.in (sG1 _ _ q)] at hD; cases hD
    have F0D3 : F0 D3 = none := by
      cases q : F0 D3 with
      | none => rfl
      | some o => rw [f6.in (sG1 _ _ q)] at D35; cases D35
    refine k tp D D3 ys (rs.map (phiR m)) (gk.map (phi m)) (cut (cut (cut (cut H8 b) cl) D) D3) _ H8 ⟨cut_sub.trans cut_sub, BV⟩ (same_cut (same_cut s0V F0D) F0D3) tpV DV D3V (by rw [cut_ne nDD]; exact cut_at) cut_at nDD (t6.same fun c o e => ?_) (fit_phi fit okm) (by rw [List.length_map]) (by rw [List.length_map]) fun kk mkk => ?_
    · have nc : c ≠ D := fun z => by rw [z, cut_at] at e; cases e
      rw [cut_ne nc] at e
      have nc3 : c ≠ D3 := fun z => by rw [z] at e; rw [news_sub _ _ e] at hD3; cases hD3
      rw [cut_ne nc3, cut_ne nc]
      exact sNV _ _ (news_mono s68 _ _ e)
    · obtain ⟨k0, mk0, rfl⟩ := List.mem_map.mp mkk
      exact phi_ok okm (ogk k0 mk0)
end
end Fm

/-! ## K32ML -/
set_option Elab.async false
set_option maxRecDepth 100000
set_option maxHeartbeats 8000000
namespace Fm
open PySem L2
theorem TpAll.eraseAt {F : Hp} {ys : List V} {α : Type} {f : α → PyData} {rs : List α} (h : TpAll F ys (rs.map f)) (j : Nat) : TpAll F (ys.eraseIdx j) ((rs.eraseIdx j).map f) := by
  rw [List.eraseIdx_eq_take_drop_succ, List.eraseIdx_eq_take_drop_succ, List.map_append, List.map_take, List.map_drop]
  exact (h.take j).app (h.drop (j + 1))
theorem RsFit.sub {ts : List Tab} {rs qs : List PRow} (h : RsFit ts rs) (m : ∀ r ∈ qs, r ∈ rs) : RsFit ts qs := ⟨fun r mr => h.tab r (m r mr), fun r mr => h.oks r (m r mr)⟩
theorem RsFit.app {ts : List Tab} {rs qs : List PRow} (h : RsFit ts rs) (g : RsFit ts qs) : RsFit ts (rs ++ qs) := ⟨fun r mr => (List.mem_append.mp mr).elim (h.tab r) (g.tab r), fun r mr => (List.mem_append.mp mr).elim (h.oks r) (g.oks r)⟩
theorem erase_len {α : Type} {xs : List α} {j n : Nat} (h : xs.length ≤ n) : (xs.eraseIdx j).length ≤ n := by
  have := List.eraseIdx_sublist xs j
  exact Nat.le_trans this.length_le h
/-- what is kept of a symbol that is told: a string that is left, or an int -/
noncomputable def keptK (us : List Str) : Key → Key
  | .inl z => .inl z
  | .inr s => if (Sum.inr s : Key) ∈ us.map Sum.inr then .inr s else .inl 0
theorem keptK_str (us : List Str) (s : Str) : keptK us (.inr s) = if (Sum.inr s : Key) ∈ us.map Sum.inr then .inr s else .inl 0 := rfl
theorem keptK_ok {us : List Str} {k : Key} (h : okSy k) : okSy (keptK us k) := by
  cases k with
  | inl z => exact h
  | inr s =>
    rw [keptK_str]
    by_cases m : (Sum.inr s : Key) ∈ us.map Sum.inr
    · rw [if_pos m]
      exact h
    · rw [if_neg m]
      exact (show (-1000000000 : Int) ≤ 0 ∧ (0 : Int) ≤ 1000000000 from by decide)
theorem keptK_mem {us : List Str} {k : Key} {s : Str} (h : keptK us k = .inr s) : s ∈ us := by
  cases k with
  | inl z => cases h
  | inr t =>
    rw [keptK_str] at h
    by_cases m : (Sum.inr t : Key) ∈ us.map Sum.inr
    · rw [if_pos m] at h
      cases h
      obtain ⟨u, mu, e⟩ := List.mem_map.mp m
      cases e
      exact mu
    · rw [if_neg m] at h
      cases h
structure OStP (F1 : Hp) (ts : List Tab) (b be : Addr) (bxs : List V) (bs : List PRow) (n : Nat) (G F' H' : Hp) (mv tv : Addr) (ys : List V) (rs' : List PRow) (gk' : List Key) : Prop where
  fl : Fl G F' H' b
  s1 : Same F1 G
  gm : G mv = none
  gt : G tv = none
  ne : mv ≠ tv
  hm : F' mv = some (.lst ys)
  ty : TpAll G ys (rs'.map (prowD true))
  ht : F' tv = some (.lst (gk'.map kV))
  fit : RsFit ts rs'
  len : rs'.length ≤ n
  l3 : gk'.length ≤ 3
  ok : ∀ k ∈ gk', okSy k
  hb : G be = some (.lst bxs)
  tb : TpAll G bxs (bs.map (prowD true))
def OSt (F1 : Hp) (ts : List Tab) (b be : Addr) (bxs : List V) (bs : List PRow) (mk : Addr → Addr → L2.St) (n : Nat) (σ' : L2.St) (H' : Hp) : Prop := ∃ (G F' : Hp) (mv tv : Addr) (ys : List V) (rs' : List PRow) (gk' : List Key), σ' = mk mv tv ∧ OStP F1 ts b be bxs bs n G F' H' mv tv ys rs' gk'
theorem OStP.more {F1 : Hp} {ts : List Tab} {b be : Addr} {bxs : List V} {bs : List PRow} {n n' : Nat} {G F' H' : Hp} {mv tv : Addr} {ys : List V} {rs' : List PRow} {gk' : List Key} (h : OStP F1 ts b be bxs bs n G F' H' mv tv ys rs' gk') (l : n ≤ n') : OStP F1 ts b be bxs bs n' G F' H' mv tv ys rs' gk' :=
  ⟨h.fl, h.s1, h.gm, h.gt, h.ne, h.hm, h.ty, h.ht, h.fit, Nat.le_trans h.len l, h.l3, h.ok, h.hb, h.tb⟩
theorem OStP.on {F1 : Hp} {ts : List Tab} {b be : Addr} {bxs : List V} {bs : List PRow} {n : Nat} {G F' H' H'' : Hp} {mv tv : Addr} {ys : List V} {rs' : List PRow} {gk' : List Key} (h : OStP F1 ts b be bxs bs n G F' H' mv tv ys rs' gk') (B : Bag F' H'' b) : OStP F1 ts b be bxs bs n G F' H'' mv tv ys rs' gk' :=
  ⟨h.fl.on B, h.s1, h.gm, h.gt, h.ne, h.hm, h.ty, h.ht, h.fit, h.len, h.l3, h.ok, h.hb, h.tb⟩
theorem OStP.putM {F1 : Hp} {ts : List Tab} {b be : Addr} {bxs : List V} {bs : List PRow} {n n' : Nat} {G F' H' : Hp} {mv tv : Addr} {ys ys' : List V} {rs' rs'' : List PRow} {gk' : List Key} (h : OStP F1 ts b be bxs bs n G F' H' mv tv ys rs' gk') (t : TpAll G ys' (rs''.map (prowD true))) (f : RsFit ts rs'') (l : rs''.length ≤ n') : OStP F1 ts b be bxs bs n' G (upd F' mv (.lst ys')) (upd H' mv (.lst ys')) mv tv ys' rs'' gk' :=
  ⟨h.fl.put _ h.gm h.hm, h.s1, h.gm, h.gt, h.ne, upd_same, t, by rw [upd_ne (Ne.symm h.ne)]; exact h.ht, f, l, h.l3, h.ok, h.hb, h.tb⟩
theorem OStP.putT {F1 : Hp} {ts : List Tab} {b be : Addr} {bxs : List V} {bs : List PRow} {n : Nat} {G F' H' : Hp} {mv tv : Addr} {ys : List V} {rs' : List PRow} {gk' gk'' : List Key} {l : List V} (h : OStP F1 ts b be bxs bs n G F' H' mv tv ys rs' gk') (e : l = gk''.map kV) (l3 : gk''.length ≤ 3) (ok : ∀ k ∈ gk'', okSy k) : OStP F1 ts b be bxs bs n G (upd F' tv (.lst l)) (upd H' tv (.lst l)) mv tv ys rs' gk'' :=
  ⟨h.fl.put _ h.gt h.ht, h.s1, h.gm, h.gt, h.ne, by rw [upd_ne h.ne]; exact h.hm, h.ty, by rw [upd_same, e], h.fit, h.len, l3, ok, h.hb, h.tb⟩
theorem OStP.newM {F1 : Hp} {ts : List Tab} {b be cp : Addr} {bxs : List V} {bs : List PRow} {n n' : Nat} {G F' H' : Hp} {mv tv : Addr} {ys ys' : List V} {rs' rs'' : List PRow} {gk' : List Key} (h : OStP F1 ts b be bxs bs n G F' H' mv tv ys rs' gk') (hc : H' cp = none) (t : TpAll G ys' (rs''.map (prowD true))) (f : RsFit ts rs'') (l : rs''.length ≤ n') : OStP F1 ts b be bxs bs n' G (upd F' cp (.lst ys')) (upd H' cp (.lst ys')) cp tv ys' rs'' gk' := by
  have z := h.fl.free hc
  have nt : tv ≠ cp := ne_of_none h.ht z.1
  exact ⟨h.fl.alloc _ hc, h.s1, z.2, h.gt, Ne.symm nt, upd_same, t, by rw [upd_ne nt]; exact h.ht, f, l, h.l3, h.ok, h.hb, h.tb⟩
section
variable {P : Program} {w : World} {K : PySem.W.Frag} {mg : Str → Option Value} {base : Heap} {CS CT CR CN CM : Addr}
def spOther : Sp := fun vs H Q _ => ∃ (F : Hp) (b rp gp tb : Addr) (mo : Nat) (ts : List Tab) (rs : List PRow) (gk : List Key), vs = [.ref b, .ref rp, .ref gp, .ref tb, .int mo] ∧ Bag F H b ∧ Tp F (.ref rp) (rowsD true rs) ∧ Tp F (.ref gp) (seqD true (gk.map kD)) ∧ TbAt F tb ts ∧ TsOk ts ∧ mo ≤ 6 ∧ RsFit ts rs ∧ RsFew rs ∧ gk.length ≤ 3 ∧ (∀ k ∈ gk, okSy k) ∧
  ∀ (tp r2 g2 : Addr) (rs2 : List PRow) (gk2 : List Key) (F' H' : Hp), Bag F' H' b → Same F F' → F' tp = some (.tup [.ref r2, .ref g2]) → Tp F' (.ref r2) (rowsD true rs2) → Tp F' (.ref g2) (seqD true (gk2.map kD)) → rs2.length ≤ mo → RsFit ts rs2 → gk2.length ≤ 3 → (∀ k ∈ gk2, okSy k) → Known (unks rs2) gk2 → Q (.ref tp) H'
abbrev s_l_other : Stmt := topS 50
abbrev sc_l_otherN : List Str := ["_law_bag_here", "_law_rows", "_law_group", "_law_tables_here", "_law_most", "_law_free", "_law_kind", "_law_made", "_law_told", "_law_beside", "_law_left", "_law_table", "_law_symbols", "_law_symbol"]
abbrev ps_l_other : List Str := ["_law_bag_here", "_law_rows", "_law_group", "_law_tables_here", "_law_most"]
theorem sc_l_other : FnScope sc_l_otherN ps_l_other (defScope s_l_other) := ⟨rfl, rfl, rfl, by decide +kernel, rfl, by decide +kernel, by decide +kernel⟩
theorem ok_l_other {f : Addr} {fd : FuncData} (F : Fun K "_law_other" "_law_other" s_l_other f fd) (T : Txt K mg CS) (D_l_pick : Df P w K mg base "_law_pick" 1 ps_l_pick spPick) (D_l_pattern : Df P w K mg base "_law_pattern" 3 ps_l_pattern spPattern) (D_l_folded : Df P w K mg base "_law_folded" 2 ps_l_folded spFolded) (D_l_shuffled : Df P w K mg base "_law_shuffled" 2 ps_l_shuffled spShuffled) : FnOk P w K mg base CX0 4 f fd ps_l_other spOther := by
  refine F.ok sc_l_other (fun vs H Q E h => ?_) (fun cdv A outer s H vs Q E hr h => ?_)
  · obtain ⟨_, _, _, _, _, _, _, _, _, rfl, _⟩ := h
    rfl
  · obtain ⟨F0, b, rp, gp, tb, mo, ts, rs, gk, rfl, B, tr, tg, htb, ok, mo6, fit, few, l3, ogk, k⟩ := h
    refine ⟨_, (pss_cons (ps_set (i := 5) sc_l_other.nd rfl (Or.inl rfl) (pe_d D_l_pattern (hr.mono (by decide)) (pa_cons (pv 0) (pa_cons (pv 3) (pa_cons (pv 4) pa_nil)))))
  (pss_cons (ps_set (i := 6) sc_l_other.nd rfl (Or.inl rfl) (pe_d D_l_pick (hr.mono (by decide)) (pa_cons (pv 0) (pa_cons pe_int pa_nil))))
  (pss_cons (ps_if (pt_cmpR op_eq (pv 6) pe_int (nomark _))
    (pss_one (ps_ret (pe_tup (pa_cons (pe_ix ix_tup (pv 5) pe_int (fun _ _ => rfl)) (pa_cons (pe_ix ix_tup (pv 5) pe_int (fun _ _ => rfl)) pa_nil)))))
    pss_nil)
  (pss_cons (ps_asg (pe_d D_l_folded (hr.mono (by decide)) (pa_cons (pv 0) (pa_cons (pv 1) (pa_cons (pv 2) (pa_cons (pe_ix ix_tup (pv 5) pe_int (fun _ _ => rfl)) pa_nil))))) (pg_tup (by rfl) (pgs_cons (pg_name (i := 7) sc_l_other.nd rfl (Or.inl rfl)) (pgs_cons (pg_name (i := 8) sc_l_other.nd rfl (Or.inl rfl)) pgs_nil))))
  (pss_cons (ps_set (i := 9) sc_l_other.nd rfl (Or.inl rfl) (pe_op op_cat (pv 7) (pe_ix ix_tup (pv 5) pe_int (fun _ _ => rfl))))
  (Evl.pss_cut (ps_if (PW.pt (pw_and (pt_cmpR op_eq (pv 6) pe_int (nomark _)) (pw_and1 (pt_cmpR op_gt (pe_callB call_len_seq (by rfl) T.n_len (by decide +kernel) (pa_cons (pv 7) pa_nil)) pe_int (nomark _)))))
    (pss_one (ps_expr (pe_bm PySem.F.plainAttrs_list PySem.F.slot_list_pop PySem.F.type_list_pop mt_popAt (pv 7) (pa_cons (pe_d D_l_pick (hr.mono (by decide)) (pa_cons (pv 0) (pa_cons (pe_callB call_len_seq (by rfl) T.n_len (by decide +kernel) (pa_cons (pv 7) pa_nil)) pa_nil))) pa_nil))))
    pss_nil)
  (Evl.pss_cut (ps_if (pt_cmpR op_eq (pv 6) pe_int (nomark _))
    (pss_one (ps_set (i := 7) sc_l_other.nd rfl (Or.inl rfl) (pe_op op_cat (pv 7) (pe_ix ix_tup (pv 5) pe_int (fun _ _ => rfl)))))
    pss_nil)
  (Evl.pss_cut (ps_if (PW.pt (pw_and (pt_cmpR op_eq (pv 6) pe_int (nomark _)) (pw_and1 (pt_cmpR op_gt (pe_callB call_len_seq (by rfl) T.n_len (by decide +kernel) (pa_cons (pv 7) pa_nil)) pe_int (nomark _)))))
    (pss_one (ps_asg (pe_ix ix_list (pv 7) (pe_d D_l_pick (hr.mono (by decide)) (pa_cons (pv 0) (pa_cons (pe_callB call_len_seq (by rfl) T.n_len (by decide +kernel) (pa_cons (pv 7) pa_nil)) pa_nil))) (fun _ _ => rfl)) (pg_sub (pv 7) (pe_d D_l_pick (hr.mono (by decide)) (pa_cons (pv 0) (pa_cons (pe_callB call_len_seq (by rfl) T.n_len (by decide +kernel) (pa_cons (pv 7) pa_nil)) pa_nil))) set_list)))
    pss_nil)
  (Evl.pss_cut (ps_if (PW.pt (pw_and (pt_cmpR op_eq (pv 6) pe_int (nomark _)) (pw_and1 (pt_cmpR op_gt (pe_callB call_len_seq (by rfl) T.n_len (by decide +kernel) (pa_cons (pv 8) pa_nil)) pe_int (nomark _)))))
    (pss_one (ps_expr (pe_bm PySem.F.plainAttrs_list PySem.F.slot_list_append PySem.F.type_list_append mt_append (pv 8) (pa_cons (pe_bm PySem.F.plainAttrs_list PySem.F.slot_list_pop PySem.F.type_list_pop mt_popAt (pv 8) (pa_cons pe_int pa_nil)) pa_nil))))
    pss_nil)
  (Evl.pss_cut (ps_if (PW.pt (pw_and (pt_cmpR op_eq (pv 6) pe_int (nomark _)) (pw_and1 (pt_cmpR op_gt (pe_callB call_len_seq (by rfl) T.n_len (by decide +kernel) (pa_cons (pv 9) pa_nil)) pe_int (nomark _)))))
    (pss_one (ps_expr (pe_bm PySem.F.plainAttrs_list PySem.F.slot_list_append PySem.F.type_list_append mt_append (pv 7) (pa_cons (pe_ix ix_list (pv 9) (pe_d D_l_pick (hr.mono (by decide)) (pa_cons (pv 0) (pa_cons (pe_callB call_len_seq (by rfl) T.n_len (by decide +kernel) (pa_cons (pv 9) pa_nil)) pa_nil))) (fun _ _ => rfl)) pa_nil))))
    pss_nil)
  (pss_cons (ps_set (i := 7) sc_l_other.nd rfl (Or.inl rfl) (pe_d D_l_shuffled (hr.mono (by decide)) (pa_cons (pv 0) (pa_cons (pe_slice sl_list (pv 7) po_none (po_some (pv 4))) pa_nil))))
  (pss_cons (ps_set (i := 10) sc_l_other.nd rfl (Or.inr rfl) (pe_lst pa_nil))
  (pss_cons (ps_for PassesOwn.never rfl (pi_list (pv 7)) (pg_tup (by rfl) (pgs_cons (pg_name (i := 11) sc_l_other.nd rfl (Or.inl rfl)) (pgs_cons (pg_name (i := 12) sc_l_other.nd rfl (Or.inl rfl)) pgs_nil)))
    (pss_one (ps_set (i := 10) sc_l_other.nd rfl (Or.inr rfl) (pe_op op_cat (pv 10) (pe_lc (own := [("_law_symbol", 13)]) (g := gName 13) (tt := _) (by rfl) sc_l_other.nd (pi_list (pv 12)) (blkOk_by (own := [("_law_symbol", 13)]) (N := sc_l_otherN) (sc := defScope s_l_other) (by decide +kernel)) (fun _ _ _ _ _ => pg_name (i := 13) sc_l_other.nd rfl (Or.inl rfl)) (fun _ _ _ _ _ => (pts_one (pt_val (pe_callB (cK_isi (K := K)) (by rfl) T.n_isinstance (by decide +kernel) (pa_cons (pv 13) (pa_cons (pe_bltn (v := .ty "str") (by rfl) T.n_str (by decide +kernel) rfl) pa_nil)))))) (fun _ _ _ _ _ => (pv 13)))))))
  (pss_one (ps_ret (pe_tup (pa_cons (pv 7) (pa_cons (pe_lc (own := [("_law_symbol", 13)]) (g := gName 13) (tt := tYes) (by rfl) sc_l_other.nd (pi_list (pv 8)) (blkOk_by (own := [("_law_symbol", 13)]) (N := sc_l_otherN) (sc := defScope s_l_other) (by decide +kernel)) (fun _ _ _ _ _ => pg_name (i := 13) sc_l_other.nd rfl (Or.inl rfl)) (fun _ _ _ _ _ => pts_nil) (fun _ _ _ _ _ => (pe_ifExp (PW.pt (pw_or (pt_cmpR (opK_in (K := K)) (pv 13) (pv 10) (by rfl)) (pw_or1 (pt_not (pt_val (pe_callB (cK_isi (K := K)) (by rfl) T.n_isinstance (by decide +kernel) (pa_cons (pv 13) (pa_cons (pe_bltn (v := .ty "str") (by rfl) T.n_str (by decide +kernel) rfl) pa_nil)))))))) (pv 13) pe_int))) pa_nil)))))))))))))))))), ?_⟩
    refine ⟨_, rfl, _, rfl, _, rfl, F0, b, tb, ts, mo, rfl, B, htb, ok, mo6, fun fp rq gq pq F1 H1 fs fg fpw B1 s1 hfp tfr tfg _ lfs ffs lfg ofg kfg _ => ?_⟩
    refine ⟨_, rfl, F1, b, 6, rfl, by decide, by decide, B1, fun kd H2 k0 k1 B2 => ?_⟩
    have fp2 := B2.fh _ _ hfp
    refine ⟨_, rfl, rfl, _, rfl, ifd (fun _ => ?_) fun _ => ?_⟩
    · refine ⟨_, rfl, fp, _, _, _, rfl, rfl, .inl (.inl fp2), rfl, _, rfl, fp, _, _, _, rfl, rfl, .inl (.inl fp2), rfl, (by show 2 ≤ sizeLine; decide), fun tp htp => ?_⟩
      have s2t : Same F1 (upd F1 tp (.tup [.ref rq, .ref gq])) := same_new _ (B2.fh.free htp)
      exact k tp rq gq fs fg _ _ (B2.new _ htp) (s1.trans s2t) upd_same (tfr.same s2t) (tfg.same s2t) lfs ffs lfg ofg kfg
    have fewf : RsFew fs := ⟨by omega, fun r m => by
      obtain ⟨t, mt, _, e⟩ := ffs.tab r m
      have := (ok.ok t mt).fs.hi
      omega⟩
    refine ⟨_, rfl, _, rfl, _, rfl, _, rfl, fp, _, _, _, rfl, rfl, .inl (.inl fp2), rfl, F1, b, rp, gp, rq, ts, rs, fs, gk, rfl, B2, tr.same s1, tg.same s1, tfr, fit, ffs, few, fewf, l3, ogk, fun p2 mv tv ys rs2 gk2 G2 F2 H3 f2 s12 hp2 hmv htv gmv gtv nmt tys fit2 lrs2 lgk2 ogk2 => ?_⟩
    obtain ⟨_, fxs, e0, hrq, tfx⟩ := (show Tp F1 (.ref rq) (.list (fs.map (prowD true))) from tfr).list
    cases e0
    have lys := tys.len
    rw [List.length_map] at lys
    have lfx := tfx.len
    rw [List.length_map] at lfx
    have l6 := few.1
    have f6 := fewf.1
    have hrq3 := f2.in (s12 _ _ hrq)
    refine ⟨p2, _, rfl, .inl (.inl (f2.at hp2)), rfl, _, _, rfl, _, _, rfl, rfl, ?_⟩
    have fp3 := f2.in (s12 _ _ hfp)
    refine ⟨_, rfl, _, rfl, fp, _, _, _, rfl, rfl, .inl (.inl fp3), rfl, mv, rq, ys, fxs, rfl, rfl, f2.at hmv, hrq3, Nat.le_trans (show _ ≤ 100 by omega) (by decide), fun be hbe => ?_⟩
    have f3 := f2.new (.lst (ys ++ fxs)) hbe
    have tbe : TpAll G2 (ys ++ fxs) ((rs2 ++ fs).map (prowD true)) := by
      rw [List.map_append]
      exact tys.app (tfx.same s12)
    have sbe : Same G2 (upd G2 be (.lst (ys ++ fxs))) := same_new _ (f2.free hbe).2
    have nmb : mv ≠ be := fun z => by rw [z, (f2.free hbe).1] at hmv; cases hmv
    have ntb : tv ≠ be := fun z => by rw [z, (f2.free hbe).1] at htv; cases htv
    have S0 : OStP F1 ts b be (ys ++ fxs) (rs2 ++ fs) 6 (upd G2 be (.lst (ys ++ fxs))) (upd F2 be (.lst (ys ++ fxs))) (upd H3 be (.lst (ys ++ fxs))) mv tv ys rs2 gk2 :=
      ⟨f3, s12.trans sbe, by rw [upd_ne nmb]; exact gmv, by rw [upd_ne ntb]; exact gtv, nmt, by rw [upd_ne nmb]; exact hmv, tys.same sbe, by rw [upd_ne ntb]; exact htv, fit2, by omega, by omega, ogk2, upd_same, tbe.same sbe⟩
    have fbs : RsFit ts (rs2 ++ fs) := fit2.app ffs
    have lbs : (rs2 ++ fs).length ≤ 12 := by rw [List.length_append]; omega
    have lbx : (ys ++ fxs).length = (rs2 ++ fs).length := by rw [S0.tb.len, List.length_map]
    clear f3 tbe sbe nmb ntb
    generalize upd G2 be (.lst (ys ++ fxs)) = G3 at *
    generalize upd F2 be (.lst (ys ++ fxs)) = F3 at *
    generalize upd H3 be (.lst (ys ++ fxs)) = H4 at *
    generalize ys ++ fxs = bxs at *
    generalize rs2 ++ fs = bs at *
    have six : ∀ {r : Int} {n j : Nat}, r = (j : Int) → j < n → seqIndex? r n = some j := fun {r n j} e hj => by
      subst e
      have h0 : ¬ ((j : Nat) : Int) < 0 := by omega
      simp [seqIndex?, hj, h0]
    let mk : Addr → Addr → L2.St := fun mv tv => [some (.ref b), some (.ref rp), some (.ref gp), some (.ref tb), some (.int mo), some (.ref fp), some (.int kd), some (.ref mv), some (.ref tv), some (.ref be), none, none, none, none]
    -- a row left out
    refine ⟨OSt F1 ts b be bxs bs mk 6, ?_, ?_⟩
    · have base : OSt F1 ts b be bxs bs mk 6 (mk mv tv) H4 := ⟨_, _, mv, tv, _, _, _, rfl, S0⟩
      refine ⟨_, rfl, rfl, _, rfl, ifd (fun _ => ?_) fun _ => iteF base⟩
      refine ⟨_, rfl, mv, _, rfl, .inl (.inl (.inl (S0.fl.at S0.hm))), _, _, rfl, rfl, _, rfl, ifd (fun lp => ?_) fun _ => base⟩
      refine ⟨_, rfl, .inl ⟨rfl, _, .inl (.inl (S0.fl.at S0.hm))⟩, _, rfl, _, rfl, mv, _, rfl, .inl (.inl (.inl (S0.fl.at S0.hm))), F3, b, (ys.length : Int), rfl, by omega, by omega, S0.fl.bag, fun r H5 r0 r1 B5 => ?_⟩
      obtain ⟨j, rfl⟩ : ∃ j : Nat, r = (j : Int) := ⟨r.toNat, by omega⟩
      have S1 := S0.on B5
      refine ⟨mv, ys, (j : Int), j, ys[j]'(by omega), rfl, rfl, S1.fl.at S1.hm, by omega, by omega, six rfl (by omega), List.getElem?_eq_getElem _, ?_⟩
      exact ⟨_, _, mv, tv, _, _, _, rfl, S1.putM (S1.ty.eraseAt j) (fit2.sub fun r m => List.mem_of_mem_eraseIdx m) (erase_len S1.len)⟩
    clear S0 hmv htv gmv gtv nmt tys fit2 lrs2 lgk2 ogk2 lys hp2 f2 s12
    -- rows put beside
    rintro σ' H5 ⟨G, F', mv, tv, ys, rs', gk', rfl, S⟩
    refine ⟨OSt F1 ts b be bxs bs mk 12, ?_, ?_⟩
    · have base : OSt F1 ts b be bxs bs mk 12 (mk mv tv) H5 := ⟨_, _, mv, tv, _, _, _, rfl, S.more (by decide)⟩
      refine ⟨_, rfl, rfl, _, rfl, ifd (fun _ => ?_) fun _ => base⟩
      have hrqG := S.s1 _ _ hrq
      have lys := S.ty.len
      rw [List.length_map] at lys
      have lr := S.len
      refine ⟨_, rfl, _, rfl, fp, _, _, _, rfl, rfl, .inl (.inl (S.fl.in (S.s1 _ _ hfp))), rfl, mv, rq, ys, fxs, rfl, rfl, S.fl.at S.hm, S.fl.in hrqG, Nat.le_trans (show _ ≤ 100 by omega) (by decide), fun cp hcp => ?_⟩
      exact ⟨_, _, cp, tv, _, rs' ++ fs, _, rfl, S.newM hcp (by rw [List.map_append]; exact S.ty.app (tfx.same S.s1)) (S.fit.app ffs) (by rw [List.length_append]; omega)⟩
    clear S
    -- a row put in another one's place
    rintro σ' H5 ⟨G, F', mv, tv, ys, rs', gk', rfl, S⟩
    refine ⟨OSt F1 ts b be bxs bs mk 12, ?_, ?_⟩
    · have base : OSt F1 ts b be bxs bs mk 12 (mk mv tv) H5 := ⟨_, _, mv, tv, _, _, _, rfl, S⟩
      have lys := S.ty.len
      rw [List.length_map] at lys
      have lr := S.len
      refine ⟨_, rfl, rfl, _, rfl, ifd (fun _ => ?_) fun _ => iteF base⟩
      refine ⟨_, rfl, mv, _, rfl, .inl (.inl (.inl (S.fl.at S.hm))), _, _, rfl, rfl, _, rfl, ifd (fun lp => ?_) fun _ => base⟩
      refine ⟨_, rfl, _, rfl, _, rfl, mv, _, rfl, .inl (.inl (.inl (S.fl.at S.hm))), F', b, (ys.length : Int), rfl, by omega, by omega, S.fl.bag, fun r H6 r0 r1 B6 => ?_⟩
      obtain ⟨j, rfl⟩ : ∃ j : Nat, r = (j : Int) := ⟨r.toNat, by omega⟩
      have S1 := S.on B6
      have hj : j < ys.length := by omega
      refine ⟨mv, ys, (j : Int), ys[j], rfl, rfl, .inl (.inl (S1.fl.at S1.hm)), atI_nat (List.getElem?_eq_getElem hj), ?_⟩
      refine ⟨_, rfl, _, rfl, _, rfl, mv, _, rfl, .inl (.inl (.inl (S1.fl.at S1.hm))), F', b, (ys.length : Int), rfl, by omega, by omega, S1.fl.bag, fun r H7 i0 i1 B7 => ?_⟩
      obtain ⟨i, rfl⟩ : ∃ i : Nat, r = (i : Int) := ⟨r.toNat, by omega⟩
      have S2 := S1.on B7
      refine ⟨mv, ys, (i : Int), i, rfl, rfl, S2.fl.at S2.hm, Evl.ixN_nat (by omega), ?_⟩
      obtain ⟨d, hd, td⟩ := S.ty.at (List.getElem?_eq_getElem hj)
      rw [List.getElem?_map] at hd
      obtain ⟨q, hq, rfl⟩ := Option.map_eq_some_iff.mp hd
      have mq := List.mem_of_getElem? hq
      exact ⟨_, _, mv, tv, _, rs'.set i q, _, rfl, S2.putM (by rw [List.map_set]; exact S2.ty.set i td) (S.fit.sub fun u mu => (List.mem_or_eq_of_mem_set mu).elim id fun e => by rw [e]; exact mq) (by rw [List.length_set]; exact S.len)⟩
    clear S
    -- the group turned
    rintro σ' H5 ⟨G, F', mv, tv, ys, rs', gk', rfl, S⟩
    refine ⟨OSt F1 ts b be bxs bs mk 12, ?_, ?_⟩
    · have base : OSt F1 ts b be bxs bs mk 12 (mk mv tv) H5 := ⟨_, _, mv, tv, _, _, _, rfl, S⟩
      refine ⟨_, rfl, rfl, _, rfl, ifd (fun _ => ?_) fun _ => iteF base⟩
      refine ⟨_, rfl, tv, _, rfl, .inl (.inl (.inl (S.fl.at S.ht))), _, _, rfl, rfl, _, rfl, ifd (fun lp => ?_) fun _ => base⟩
      cases gk' with
      | nil => exact absurd lp (by decide)
      | cons k0 ks =>
        refine ⟨_, rfl, .inl ⟨rfl, _, .inl (.inl (S.fl.at S.ht))⟩, _, rfl, .inl ⟨rfl, _, .inl (.inl (S.fl.at S.ht))⟩, ?_⟩
        refine ⟨tv, _, 0, 0, kV k0, rfl, rfl, S.fl.at S.ht, by decide, by decide, six (r := 0) (j := 0) rfl (by simp), rfl, ?_⟩
        have S1 := S.putT (gk'' := ks) (l := ((k0 :: ks).map kV).eraseIdx 0) rfl (by have := S.l3; rw [List.length_cons] at this; omega) fun k mk => S.ok k (List.mem_cons_of_mem _ mk)
        refine ⟨tv, ks.map kV, kV k0, rfl, rfl, S1.fl.at S1.ht, ?_, ?_⟩
        · have := S1.l3
          rw [List.length_map]
          exact Nat.lt_of_le_of_lt (show _ ≤ 100 by omega) (by decide)
        exact ⟨_, _, mv, tv, _, _, ks ++ [k0], rfl, S1.putT (by rw [List.map_append]; rfl) (by have := S.l3; rw [List.length_cons] at this; rw [List.length_append]; exact this) fun k mk => (List.mem_append.mp mk).elim (S1.ok k) fun mk => by rw [List.mem_singleton.mp mk]; exact S.ok k0 List.mem_cons_self⟩
    clear S
    -- one more row
    rintro σ' H5 ⟨G, F', mv, tv, ys, rs', gk', rfl, S⟩
    refine ⟨OSt F1 ts b be bxs bs mk 13, ?_, ?_⟩
    · have base : OSt F1 ts b be bxs bs mk 13 (mk mv tv) H5 := ⟨_, _, mv, tv, _, _, _, rfl, S.more (by decide)⟩
      have lys := S.ty.len
      rw [List.length_map] at lys
      have lr := S.len
      have hb := S.fl.in S.hb
      refine ⟨_, rfl, rfl, _, rfl, ifd (fun _ => ?_) fun _ => iteF base⟩
      refine ⟨_, rfl, be, _, rfl, .inl (.inl (.inl hb)), _, _, rfl, rfl, _, rfl, ifd (fun lp => ?_) fun _ => base⟩
      refine ⟨_, rfl, .inl ⟨rfl, _, .inl (.inl (S.fl.at S.hm))⟩, _, rfl, _, rfl, _, rfl, be, _, rfl, .inl (.inl (.inl hb)), F', b, (bxs.length : Int), rfl, by omega, by omega, S.fl.bag, fun r H6 r0 r1 B6 => ?_⟩
      obtain ⟨j, rfl⟩ : ∃ j : Nat, r = (j : Int) := ⟨r.toNat, by omega⟩
      have S1 := S.on B6
      have hj : j < bxs.length := by omega
      refine ⟨be, bxs, (j : Int), bxs[j], rfl, rfl, .inl (.inl (S1.fl.in S1.hb)), atI_nat (List.getElem?_eq_getElem hj), ?_⟩
      refine ⟨mv, ys, bxs[j], rfl, rfl, S1.fl.at S1.hm, Nat.lt_of_le_of_lt (show _ ≤ 100 by omega) (by decide), ?_⟩
      obtain ⟨d, hd, td⟩ := S.tb.at (List.getElem?_eq_getElem hj)
      rw [List.getElem?_map] at hd
      obtain ⟨q, hq, rfl⟩ := Option.map_eq_some_iff.mp hd
      have mq := List.mem_of_getElem? hq
      exact ⟨_, _, mv, tv, _, rs' ++ [q], _, rfl, S1.putM (by rw [List.map_append]; exact S1.ty.snoc td) (S.fit.app (fbs.sub fun u mu => by rw [List.mem_singleton.mp mu]; exact mq)) (by rw [List.length_append]; exact Nat.succ_le_succ S.len)⟩
    clear S
    rintro σ' H5 ⟨G, F', mv, tv, ys, rs', gk', rfl, S⟩
    have lys := S.ty.len
    rw [List.length_map] at lys
    have lr := S.len
    refine ⟨_, rfl, _, rfl, _, rfl, _, rfl, mv, ys, rfl, .inl (.inl (S.fl.at S.hm)), fun c hc => ?_⟩
    rw [cutV_to]
    have f5 := S.fl.alloc (.lst (ys.take mo)) hc
    have c5 : (upd F' c (.lst (ys.take mo))) c = some (.lst (ys.take mo)) := upd_same
    have t5 : (upd F' c (.lst (ys.take mo))) tv = some (.lst (gk'.map kV)) := by rw [upd_ne (ne_of_none S.ht (S.fl.free hc).1)]; exact S.ht
    generalize upd F' c (.lst (ys.take mo)) = F5 at *
    generalize upd H5 c (.lst (ys.take mo)) = H6 at *
    refine ⟨F5, b, c, ys.take mo, rfl, f5.bag, c5, (by rw [List.length_take]; omega), fun p zs F6 H7 pm B7 s67 p7 _ => ?_⟩
    obtain ⟨rs2, prs, trs⟩ := TpAll.perm pm (show TpAll G (ys.take mo) ((rs'.take mo).map (prowD true)) from by rw [List.map_take]; exact S.ty.take mo)
    have fit2 : RsFit ts rs2 := S.fit.sub fun r m => List.mem_of_mem_take (prs.mem_iff.mp m)
    have l2 : rs2.length ≤ mo := by rw [prs.length_eq, List.length_take]; omega
    have few2 : ∀ r ∈ rs2, r.2.length ≤ 4 := fun r m => by
      obtain ⟨t, mt, _, e⟩ := fit2.tab r m
      have := (ok.ok t mt).fs.hi
      omega
    have s16 : Same F1 F6 := (S.s1.trans f5.gf).trans s67
    have tRG := trs.same (f5.gf.trans s67)
    have lz := tRG.len
    rw [List.length_map] at lz
    have t6 := s67 _ _ t5
    have gl3 := S.l3
    have gok := S.ok
    clear S f5 c5 t5 s67 trs
    have p7H := B7.fh _ _ p7
    have t7H := B7.fh _ _ t6
    -- what is left
    refine ⟨(by show 0 ≤ sizeLine; decide), fun ua hua => ?_⟩
    have s78 : Same H7 (upd H7 ua (.lst [])) := same_new _ hua
    have ua8 : (upd H7 ua (.lst [])) ua = some (.lst (([] : List Str).map V.str)) := upd_same
    generalize upd H7 ua (.lst []) = H8 at *
    refine ⟨_, rfl, p, rfl, ⟨_, .inl (.inl (s78 _ _ p7H))⟩, ?_⟩
    refine for_it walk_list (fun i σ' H' => ∃ (v11 v12 : Option V) (a : Addr), σ' = [some (.ref b), some (.ref rp), some (.ref gp), some (.ref tb), some (.int mo), some (.ref fp), some (.int kd), some (.ref p), some (.ref tv), some (.ref be), some (.ref a), v11, v12, none] ∧ Same H7 H' ∧ H' a = some (.lst ((((rs2.take i).map (·.2)).flatMap strsK).map V.str)))
      ⟨_, _, ua, rfl, s78, ua8⟩ (fun i σ' H' _ z => by obtain ⟨_, _, _, _, z, _⟩ := z; exact .inl (.inl (z _ _ p7H))) ?_ ?_
    · rintro i y σ' HB HC hi ⟨v12, v13, a, rfl, sB, aB⟩ ⟨rfl, hy⟩
      obtain ⟨c, hc, hyc⟩ := tRG.at hy
      rw [List.getElem?_map] at hc
      obtain ⟨r, hr0, rfl⟩ := Option.map_eq_some_iff.mp hc
      have mr := List.mem_of_getElem? hr0
      obtain ⟨ra, sy, rfl, hra, sxs, hsx, _, tsq⟩ := row_at hyc
      obtain ⟨_, _, e1, hsy, tk⟩ := (show Tp F6 (.ref sy) (.list (r.2.map kD)) from tsq).list
      cases e1
      have ekk := keys_inv tk
      subst ekk
      have l4 := few2 r mr
      have sGB := B7.fh.trans sB
      refine ⟨ra, _, rfl, .inl (.inl (sGB _ _ hra)), rfl, _, _, rfl, _, _, rfl, rfl, ?_⟩
      have hsyC := sGB _ _ hsy
      refine ⟨_, rfl, _, rfl, sy, rfl, ⟨_, .inl (.inl hsyC)⟩, fun D hD => ?_⟩
      refine lc_it walk_list (fun j H' => Same HC H' ∧ H' D = some (.lst ((strsK (r.2.take j)).map V.str))) ⟨same_new _ hD, upd_same⟩ (fun j H' _ z => .inl (.inl (z.1 _ _ hsyC))) ?_ ?_
      · rintro j y H6 H7 hj ⟨s6, d6⟩ ⟨rfl, hy⟩
        rw [List.getElem?_map] at hy
        obtain ⟨kk, hk, rfl⟩ := Option.map_eq_some_iff.mp hy
        have est : strsK (r.2.take (j + 1)) = strsK (r.2.take j) ++ strsK [kk] := by
          rw [List.take_add_one, hk, strsK_app]
          rfl
        cases kk with
        | inl z =>
          refine ⟨rfl, _, rfl, _, _, _, _, _, rfl, .ty _, (Tp.int z).ty (K := K), kit_ty (kit_d (by simp)), _, rfl, iteF ⟨s6, ?_⟩⟩
          rw [est, show strsK [(Sum.inl z : Key)] = [] from rfl, List.append_nil]
          exact d6
        | inr s =>
          refine ⟨rfl, _, rfl, _, _, _, _, _, rfl, .ty _, (Tp.str s).ty (K := K), kit_ty (kit_d (by simp)), _, rfl, iteT ⟨_, rfl, _, d6, ?_, same_put s6 _ hD, ?_⟩⟩
          · rw [List.length_map]
            have z := strsK_len (r.2.take j)
            rw [List.length_take] at z
            exact Nat.lt_of_le_of_lt (show _ ≤ 100 by omega) (by decide)
          · rw [upd_same, est, show strsK [(Sum.inr s : Key)] = [s] from rfl, List.map_append]
            rfl
      rintro H6 ⟨s6, d6⟩
      rw [List.length_map, List.take_length] at d6
      have lu : ∀ (ks : List PRow), (∀ r ∈ ks, r.2.length ≤ 4) → ((ks.map (·.2)).flatMap strsK).length ≤ 4 * ks.length := by
        intro ks
        induction ks with
        | nil => exact fun _ => Nat.le_refl _
        | cons u us ih =>
          intro h
          have a := ih fun v m => h v (List.mem_cons_of_mem _ m)
          have b := h u List.mem_cons_self
          have c := strsK_len u.2
          rw [List.map_cons, List.flatMap_cons, List.length_append, List.length_cons]
          omega
      have l1 := lu (rs2.take i) fun r m => few2 r (List.mem_of_mem_take m)
      have l2 := strsK_len r.2
      rw [List.length_take] at l1
      refine ⟨a, D, _, _, rfl, rfl, s6 _ _ aB, d6, ?_, fun a2 ha2 => ?_⟩
      · rw [List.length_map, List.length_map]
        exact Nat.le_trans (show _ ≤ 100 by omega) (by decide)
      have s7 : Same H6 (upd H6 a2 (.lst (((((rs2.take i).map (·.2)).flatMap strsK).map V.str) ++ (strsK r.2).map V.str))) := same_new _ ha2
      refine ⟨_, _, a2, rfl, (sB.trans s6).trans s7, ?_⟩
      rw [upd_same, List.take_add_one, hr0, List.map_append, List.flatMap_append, List.map_append]
      show _ = some (HO.lst (_ ++ (strsK r.2 ++ []).map V.str))
      rw [List.append_nil]
    rintro σ' HB ⟨v12, v13, ua, rfl, s7B, uaB⟩
    rw [lz, List.take_length] at uaB
    have uin : ∀ s ∈ (rs2.map (·.2)).flatMap strsK, s ∈ unks rs2 := fun s ms => by
      obtain ⟨ks, mks, h⟩ := List.mem_flatMap.mp ms
      obtain ⟨r, mr, rfl⟩ := List.mem_map.mp mks
      exact unks_mem.mpr ⟨r, mr, strsK_mem h⟩
    generalize (rs2.map (·.2)).flatMap strsK = us at *
    have tB := s7B _ _ t7H
    have eus : us.map V.str = (us.map (Sum.inr : Str → Key)).map kV := by rw [List.map_map]; rfl
    refine ⟨_, rfl, _, rfl, tv, rfl, ⟨_, .inl (.inl tB)⟩, fun D hD => ?_⟩
    refine lc_it walk_list (fun n H' => Same HB H' ∧ H' D = some (.lst (((gk'.take n).map (keptK us)).map kV))) ⟨same_new _ hD, upd_same⟩ (fun n H' _ z => .inl (.inl (z.1 _ _ tB))) ?_ ?_
    · rintro n y2 HC HD2 hn ⟨sC, dC⟩ ⟨rfl, hy2⟩
      rw [List.getElem?_map] at hy2
      obtain ⟨kk, hk, rfl⟩ := Option.map_eq_some_iff.mp hy2
      refine ⟨rfl, _, rfl, _, rfl, ua, _, rfl, .inl (.inl (.inl (sC _ _ uaB))), (by cases kk <;> rfl), (by rw [eus]; exact flat_keys _), ?_⟩
      rw [eus, inV_key]
      have fin : ∀ k2 : Key, keptK us kk = k2 → ∃ xs, HD2 D = some (.lst xs) ∧ xs.length < sizeLine ∧ Same HB (upd HD2 D (.lst (xs ++ [kV k2]))) ∧ (upd HD2 D (.lst (xs ++ [kV k2]))) D = some (.lst (((gk'.take (n + 1)).map (keptK us)).map kV)) := fun k2 e2 => ⟨_, dC, by rw [List.length_map]; exact take_lt _ (by omega), same_put sC _ hD, by rw [upd_same, map_take _ hk, List.map_append, e2]; rfl⟩
      cases kk with
      | inl z =>
        rw [decide_eq_false (by simp)]
        exact ⟨_, rfl, iteF ⟨_, rfl, _, _, _, _, _, rfl, .ty _, (Tp.int z).ty (K := K), kit_ty (kit_d (by simp)), _, rfl, iteT ⟨_, rfl, fin (.inl z) rfl⟩⟩⟩
      | inr s =>
        by_cases m : (Sum.inr s : Key) ∈ us.map Sum.inr
        · rw [decide_eq_true m]
          exact ⟨_, rfl, iteT (iteT ⟨_, rfl, fin (.inr s) (by rw [keptK_str, if_pos m])⟩)⟩
        · rw [decide_eq_false m]
          exact ⟨_, rfl, iteF ⟨_, rfl, _, _, _, _, _, rfl, .ty _, (Tp.str s).ty (K := K), kit_ty (kit_d (by simp)), _, rfl, iteF (fin (.inl 0) (by rw [keptK_str, if_neg m]))⟩⟩
    rintro HC ⟨sC, dC⟩
    rw [List.length_map, List.take_length] at dC
    refine ⟨(by show 2 ≤ sizeLine; decide), fun tp htp => ?_⟩
    have hD7 : H7 D = none := s7B.free hD
    have BC := B7.late hD7 (s7B.trans sC) dC
    have D6 : F6 D = none := B7.fh.free hD7
    have sD : Same F6 (upd F6 D (.lst ((gk'.map (keptK us)).map kV))) := same_new _ D6
    have D7 : (upd F6 D (.lst ((gk'.map (keptK us)).map kV))) D = some (.lst ((gk'.map (keptK us)).map kV)) := upd_same
    generalize upd F6 D (.lst ((gk'.map (keptK us)).map kV)) = F7 at *
    have s7t : Same F7 (upd F7 tp (.tup [.ref p, .ref D])) := same_new _ (BC.fh.free htp)
    refine k tp p D rs2 (gk'.map (keptK us)) _ _ (BC.new _ htp) (((s1.trans s16).trans sD).trans s7t) upd_same (.lst ((sD.trans s7t) _ _ p7) (tRG.same (sD.trans s7t))) (.lst (s7t _ _ D7) (keys_tp _)) l2 fit2 (by rw [List.length_map]; exact gl3) (fun k0 m0 => ?_) fun s ms => ?_
    · obtain ⟨k1, m1, rfl⟩ := List.mem_map.mp m0
      exact keptK_ok (gok k1 m1)
    · obtain ⟨k1, m1, e⟩ := List.mem_map.mp ms
      exact uin s (keptK_mem e)
end
end Fm

/-! ## K32MM -/
set_option Elab.async false
set_option maxRecDepth 100000
set_option maxHeartbeats 8000000
namespace Fm
open PySem L2
theorem Xf.glob {P : Program} {w : World} {K : PySem.W.Frag} {mg : Str → Option Value} {base : Heap} {x f : Str} {C : Addr} (B : Xf P w K mg base x C f) : mg x = some (.ref C) := by
  obtain ⟨_, _, _, _, _, _, h, _⟩ := B.ex
  exact h
structure Tx7 (K : PySem.W.Frag) (CQ : Addr) : Prop where
  qq : PySem.W.exmOne K (.ref CQ) (.ref CQ) = some true
  xQ : XfC K CQ
  fQ : PySem.W.findIn K (.ref CQ) "at" = some none
section
variable {P : Program} {w : World} {K : PySem.W.Frag} {mg : Str → Option Value} {base : Heap} {CS CT CR CN CM CP CQ : Addr}
def spRefM (CP : Addr) : Sp := fun vs H Q _ => ∃ (v u : V), vs = [v, u] ∧ ((∃ d : PyData, Tp H v d) ∨ ∃ (p : Addr) (rs : List PRow) (gk : List Key) (us : List Str) (pw : List (Str × Int)), v = .ref p ∧ PatAt CP H p rs gk us pw ∧ ∃ d : PyData, Tp H u d) ∧ ∀ H', Same H H' → Q (.bl true) H'
abbrev s_l_refused : Stmt := topS 49
abbrev sc_l_refusedN : List Str := ["_law_one", "_law_other_here", "e"]
abbrev ps_l_refused : List Str := ["_law_one", "_law_other_here"]
theorem sc_l_refused : FnScope sc_l_refusedN ps_l_refused (defScope s_l_refused) := ⟨rfl, rfl, rfl, by decide +kernel, rfl, by decide +kernel, by decide +kernel⟩
theorem ok_l_refused {f : Addr} {fd : FuncData} (F : Fun K "_law_refused" "_law_refused" s_l_refused f fd) (T : Txt K mg CS) (T7 : Tx7 K CQ) (X_BadPattern : Xf P w K mg base "BadPattern" CQ "at") (D_group_map : DfX P w K mg base "group_map" 14 ps_group_map (spGroupMap CP CQ)) : FnOk P w K mg base CX0 15 f fd ps_l_refused (spRefM CP) := by
  refine F.ok sc_l_refused (fun vs H Q E h => ?_) (fun cdv A outer s H vs Q E hr h => ?_)
  · obtain ⟨_, _, rfl, _⟩ := h
    rfl
  · obtain ⟨v, u, rfl, h, k⟩ := h
    refine ⟨_, (Evl.pss_cut (ps_try_as (i := 2) (Wout := fun _ _ _ _ => False) rfl rfl sc_l_refused.nd rfl rfl ⟨rfl, by decide, Or.inl X_BadPattern.glob⟩ takes0
    (fun W pn xe tk _ => by exact (pss_one (ps_expr (pe_dE D_group_map (hr.mono (by decide)) tk (pa_cons (pv 0) (pa_cons (pv 1) pa_nil))))))
    (fun a oe cls d pn hz hf => by exact (pss_one (ps_ret (pe_and (pe_cmpR op_eq (pe_xk (K := K) hz hf (pv 2)) (pe_un un_neg pe_int) (nomark _)) (pe_one (pe_not (pe_callB (cK_isi (K := K)) (by rfl) T.n_isinstance (by decide +kernel) (pa_cons (pe_xk (K := K) hz hf (pv 2)) (pa_cons (pe_bltn (v := .ty "bool") (by rfl) T.n_bool (by decide +kernel) rfl) pa_nil))))))))))
  (pss_one (ps_ret pe_bl))), ?_⟩
    refine ⟨fun σ' H' => False, ?_, fun σ' H' z => z.elim⟩
    rcases h with ⟨d, hv⟩ | ⟨p, rs, gk, us, pw, rfl, pA, d, hu⟩
    · refine ⟨_, rfl, _, rfl, .inr (.inl ⟨v, u, d, rfl, hv, fun dd H1 s1 nd hd => ⟨true, T7.qq, fun _ a1 na => ?_, fun q => nomatch q⟩⟩)⟩
      exact ⟨_, rfl, rfl, CQ, dd, _, _, rfl, T7.xQ, T7.fQ, rfl, hd, rfl, _, rfl, rfl, _, rfl, iteT ⟨_, rfl, rfl, CQ, dd, _, _, rfl, T7.xQ, T7.fQ, rfl, hd, rfl, _, _, _, _, _, rfl, .ty _, (Tp.int (-1)).ty (K := K), kit_ty (kit_d (by simp)), _, rfl, k _ s1⟩⟩
    · refine ⟨_, rfl, _, rfl, .inr (.inr ⟨p, rs, gk, us, pw, u, d, rfl, pA, hu, fun dd H1 s1 nd hd => ⟨true, T7.qq, fun _ a1 na => ?_, fun q => nomatch q⟩⟩)⟩
      exact ⟨_, rfl, rfl, CQ, dd, _, _, rfl, T7.xQ, T7.fQ, rfl, hd, rfl, _, rfl, rfl, _, rfl, iteT ⟨_, rfl, rfl, CQ, dd, _, _, rfl, T7.xQ, T7.fQ, rfl, hd, rfl, _, _, _, _, _, rfl, .ty _, (Tp.int (-1)).ty (K := K), kit_ty (kit_d (by simp)), _, rfl, k _ s1⟩⟩
end
end Fm

/-! ## K32MO -/
set_option Elab.async false
set_option maxRecDepth 100000
set_option maxHeartbeats 16000000
namespace Fm
open PySem L2
theorem PatAt.same {CP : Addr} {H H' : Hp} {x : Addr} {rs : List PRow} {g : List Key} {us : List Str} {pw : List (Str × Int)} (p : PatAt CP H x rs g us pw) (s : Same H H') : PatAt CP H' x rs g us pw := by
  obtain ⟨dx, v1, v2, v3, h0, h1, h2, L, hL, h3⟩ := p
  exact ⟨dx, v1, v2, v3, s _ _ h0, h1.same (cut_mono s), h2.same (cut_mono s), L, hL, h3.same (cut_mono s)⟩
theorem named_few {rs : List PRow} (h : RsFew rs) : RsFew (named2 rs) := ⟨by unfold named2; rw [List.length_map]; exact h.1, fun r mr => by
  obtain ⟨u, mu, rfl⟩ := List.mem_map.mp mr
  show (u.2.map _).length ≤ 4
  rw [List.length_map]
  exact h.2 u mu⟩
theorem pw_no (us : List Str) : PwOk [] us := ⟨List.nodup_nil, (fun p m => by cases m), Nat.zero_le _⟩
section
variable {P : Program} {w : World} {K : PySem.W.Frag} {mg : Str → Option Value} {base : Heap} {CS CT CR CN CM CP CQ : Addr}
def spLaw (K : PySem.W.Frag) : Sp := fun vs H Q _ => ∃ (a : Addr) (ns : List Int), vs = [.ref a] ∧ SqL K H a (ns.map V.int) ∧ ns.length ≤ 63 ∧ ∀ H', Q (.bl true) H'
abbrev s_law : Stmt := topS 51
abbrev sc_lawN : List Str := ["_law_script", "_law_bag_here", "_law_most", "_law_tables_here", "_law_rows", "_law_group", "_law_powers", "_law_other_rows", "_law_other_group", "_law_one", "_law_other_here", "_law_left", "_law_right", "_law_due_here", "_law_told", "_law_thing"]
abbrev ps_law : List Str := ["_law_script"]
theorem sc_law : FnScope sc_lawN ps_law (defScope s_law) := ⟨rfl, rfl, rfl, by decide +kernel, rfl, by decide +kernel, by decide +kernel⟩
theorem ok_law {f : Addr} {fd : FuncData} (F : Fun K "law" "law" s_law f fd) (T : Txt K mg CS) (T5 : Tx5 K mg CP) (D_l_bag : Df P w K mg base "_law_bag" 1 ps_l_bag (spBag K)) (D_l_pick : Df P w K mg base "_law_pick" 1 ps_l_pick spPick) (D_l_tables : Df P w K mg base "_law_tables" 3 ps_l_tables spTables) (D_l_pattern : Df P w K mg base "_law_pattern" 3 ps_l_pattern spPattern) (D_l_other : Df P w K mg base "_law_other" 4 ps_l_other spOther)
    (D_Pattern : Dc P w K mg base "Pattern" CP 5 ps_Pattern_init (spPatI CP)) (D_l_due : Df P w K mg base "_law_due" 1 ps_l_due spDue) (D_l_has_map : Df P w K mg base "_law_has_map" 3 ps_l_has_map spHasMap) (D_l_judged : Df P w K mg base "_law_judged" 3 ps_l_judged spJudged) (D_group_map : DfX P w K mg base "group_map" 14 ps_group_map (spGroupMap CP CQ)) (D_l_refused : Df P w K mg base "_law_refused" 15 ps_l_refused (spRefM CP)) : FnOk P w K mg base CX0 44 f fd ps_law (spLaw K) := by
  refine F.ok sc_law (fun vs H Q E h => ?_) (fun cdv A outer s H vs Q E hr h => ?_)
  · obtain ⟨_, _, rfl, _⟩ := h
    rfl
  · obtain ⟨sc, ns, rfl, hs, len, k⟩ := h
    refine ⟨_, (pss_cons (ps_set (i := 1) sc_law.nd rfl (Or.inl rfl) (pe_d D_l_bag (hr.mono (by decide)) (pa_cons (pv 0) pa_nil)))
  (pss_cons (ps_set (i := 2) sc_law.nd rfl (Or.inl rfl) (pe_ix ix_list (pe_lst (pa_cons pe_int (pa_cons pe_int (pa_cons pe_int pa_nil)))) (pe_d D_l_pick (hr.mono (by decide)) (pa_cons (pv 1) (pa_cons pe_int pa_nil))) (fun _ _ => rfl)))
  (pss_cons (ps_set (i := 3) sc_law.nd rfl (Or.inl rfl) (pe_d D_l_tables (hr.mono (by decide)) (pa_cons (pv 1) pa_nil)))
  (pss_cons (ps_asg (pe_d D_l_pattern (hr.mono (by decide)) (pa_cons (pv 1) (pa_cons (pv 3) (pa_cons (pv 2) pa_nil)))) (pg_tup (by rfl) (pgs_cons (pg_name (i := 4) sc_law.nd rfl (Or.inl rfl)) (pgs_cons (pg_name (i := 5) sc_law.nd rfl (Or.inl rfl)) (pgs_cons (pg_name (i := 6) sc_law.nd rfl (Or.inl rfl)) pgs_nil)))))
  (Evl.pss_cut (ps_if (pt_cmpR op_gt (pe_callB call_len_seq (by rfl) T.n_len (by decide +kernel) (pa_cons (pv 4) pa_nil)) pe_int (nomark _))
    (pss_one (ps_set (i := 2) sc_law.nd rfl (Or.inl rfl) pe_int))
    (pss_one (ps_set (i := 2) sc_law.nd rfl (Or.inl rfl) pe_int)))
  (pss_cons (ps_asg (pe_d D_l_other (hr.mono (by decide)) (pa_cons (pv 1) (pa_cons (pv 4) (pa_cons (pv 5) (pa_cons (pv 3) (pa_cons (pv 2) pa_nil)))))) (pg_tup (by rfl) (pgs_cons (pg_name (i := 7) sc_law.nd rfl (Or.inl rfl)) (pgs_cons (pg_name (i := 8) sc_law.nd rfl (Or.inl rfl)) pgs_nil))))
  (pss_cons (ps_set (i := 9) sc_law.nd rfl (Or.inl rfl) (pe_dc D_Pattern (hr.mono (by decide)) (pa_cons (pv 4) (pa_cons (pv 5) (pa_cons (pv 6) pa_nil)))))
  (pss_cons (ps_set (i := 10) sc_law.nd rfl (Or.inl rfl) (pe_dc D_Pattern (hr.mono (by decide)) (pa_cons (pv 7) (pa_cons (pv 8) (pa_cons pe_dnewK pa_nil)))))
  (pss_cons (ps_set (i := 11) sc_law.nd rfl (Or.inl rfl) (pe_d D_l_due (hr.mono (by decide)) (pa_cons (pv 4) (pa_cons (pv 5) (pa_cons pe_dnewK pa_nil)))))
  (pss_cons (ps_set (i := 12) sc_law.nd rfl (Or.inl rfl) (pe_d D_l_due (hr.mono (by decide)) (pa_cons (pv 7) (pa_cons (pv 8) (pa_cons pe_dnewK pa_nil)))))
  (pss_cons (ps_set (i := 13) sc_law.nd rfl (Or.inl rfl) (pe_d D_l_has_map (hr.mono (by decide)) (pa_cons (pe_ix ix_tup (pv 11) pe_int (fun _ _ => rfl)) (pa_cons (pe_ix ix_tup (pv 11) pe_int (fun _ _ => rfl)) (pa_cons (pe_ix ix_tup (pv 12) pe_int (fun _ _ => rfl)) (pa_cons (pe_ix ix_tup (pv 12) pe_int (fun _ _ => rfl)) pa_nil))))))
  (Evl.pss_cut (ps_set (i := 14) sc_law.nd rfl (Or.inl rfl) (pe_dE (W := fun _ _ _ _ => False) D_group_map (hr.mono (by decide)) takes0 (pa_cons (pv 9) (pa_cons (pv 10) pa_nil))))
  (Evl.pss_cut (ps_if (pt_cmpR op_eq (pe_cmpR op_isN (pv 14) pe_non (nomark _)) (pv 13) (nomark _))
    (pss_one (ps_ret pe_bl))
    pss_nil)
  (Evl.pss_cut (ps_if (PW.pt (pw_and (pt_val (pv 13)) (pw_and1 (pt_not (pt_val (pe_d D_l_judged (hr.mono (by decide)) (pa_cons (pe_ix ix_tup (pv 11) pe_int (fun _ _ => rfl)) (pa_cons (pe_ix ix_tup (pv 11) pe_int (fun _ _ => rfl)) (pa_cons (pe_ix ix_tup (pv 12) pe_int (fun _ _ => rfl)) (pa_cons (pe_ix ix_tup (pv 12) pe_int (fun _ _ => rfl)) (pa_cons (pv 14) pa_nil)))))))))))
    (pss_one (ps_ret pe_bl))
    pss_nil)
  (pss_cons (ps_if (PW.pt (pw_or (pt_cmpR op_isN (pe_dE (W := fun _ _ _ _ => False) D_group_map (hr.mono (by decide)) takes0 (pa_cons (pe_dc D_Pattern (hr.mono (by decide)) (pa_cons (pv 4) (pa_cons (pv 5) (pa_cons pe_dnewK pa_nil)))) (pa_cons (pv 9) pa_nil))) pe_non (nomark _)) (pw_or1 (pt_cmpR op_isN (pe_dE (W := fun _ _ _ _ => False) D_group_map (hr.mono (by decide)) takes0 (pa_cons (pv 9) (pa_cons (pe_dc D_Pattern (hr.mono (by decide)) (pa_cons (pv 4) (pa_cons (pv 5) (pa_cons pe_dnewK pa_nil)))) pa_nil))) pe_non (nomark _)))))
    (pss_one (ps_ret pe_bl))
    pss_nil)
  (pss_cons (ps_set (i := 15) sc_law.nd rfl (Or.inl rfl) (pe_ix ix_list (pe_lst (pa_cons pe_non (pa_cons pe_int (pa_cons pe_str (pa_cons (pe_tup pa_nil) (pa_cons (pe_lst pa_nil) (pa_cons pe_dnewK (pa_cons pe_bl (pa_cons (pv 7) pa_nil))))))))) (pe_d D_l_pick (hr.mono (by decide)) (pa_cons (pv 1) (pa_cons pe_int pa_nil))) (fun _ _ => rfl)))
  (pss_one (ps_ret (pe_and (pe_d D_l_refused (hr.mono (by decide)) (pa_cons (pv 15) (pa_cons (pv 10) pa_nil))) (pe_and (pe_d D_l_refused (hr.mono (by decide)) (pa_cons (pv 9) (pa_cons (pv 15) pa_nil))) (pe_one (pe_d D_l_refused (hr.mono (by decide)) (pa_cons (pv 15) (pa_cons (pv 15) pa_nil)))))))))))))))))))))))), ?_⟩
    refine ⟨_, rfl, sc, ns, rfl, hs, len, fun b H0 B0 => ?_⟩
    refine ⟨(by show 3 ≤ sizeLine; decide), fun m hm => ⟨_, rfl, _, b, 3, rfl, by decide, by decide, B0.new _ hm, fun r0 H1 a0 a1 B1 => ?_⟩⟩
    obtain ⟨v, hv, hvm⟩ := at_mem (xs := ([4, 4, 6] : List Nat).map fun (n : Nat) => V.int (Int.ofNat n)) a0 a1
    obtain ⟨mo, hmo, rfl⟩ := List.mem_map.mp hvm
    have mo6 : mo ≤ 6 := by
      have all : ∀ z ∈ ([4, 4, 6] : List Nat), z ≤ 6 := by decide
      exact all mo hmo
    refine ⟨m, _, _, _, rfl, rfl, .inl (.inl (B1.fh _ _ upd_same)), hv, ?_⟩
    clear hv hvm hmo
    refine ⟨_, rfl, _, b, rfl, B1, fun tb F1 H2 ts B2 _ tok tb1 => ?_⟩
    refine ⟨_, rfl, _, rfl, _, rfl, F1, b, tb, ts, mo, rfl, B2, tb1, tok, mo6, fun tp rp gp pp F2 H3 rs gk pw B3 s12 htp tr tg hpp lmo fit lg ogk kgk pok => ?_⟩
    refine ⟨tp, _, rfl, .inl (.inl (B3.fh _ _ htp)), rfl, _, _, rfl, _, _, rfl, _, _, rfl, rfl, ?_⟩
    obtain ⟨_, rxs, e0, hrp, _⟩ := (show Tp F2 (.ref rp) (.list (rs.map (prowD true))) from tr).list
    cases e0
    have l6 : rs.length ≤ 6 := Nat.le_trans lmo mo6
    have few : RsFew rs := ⟨l6, fun r mr => (fit.prok tok r mr).hi⟩
    have rsok : RsOk rs := ⟨l6, fit.prok tok⟩
    have tb2 := tb1.same s12
    clear B0 B1 B2 tb1 s12 hm
    refine ⟨fun σ' H' => ∃ m2 : Nat, m2 ≤ 6 ∧ σ' = [some (.ref sc), some (.ref b), some (.int (m2 : Int)), some (.ref tb), some (.ref rp), some (.ref gp), some (.ref pp), none, none, none, none, none, none, none, none, none] ∧ H' = H3, ?_, ?_⟩
    · exact ⟨_, rfl, rp, _, rfl, .inl (.inl (.inl (B3.fh _ _ hrp))), _, _, rfl, rfl, _, rfl, ifd (fun _ => ⟨2, by omega, rfl, rfl⟩) fun _ => ⟨6, by omega, rfl, rfl⟩⟩
    rintro σ' H' ⟨m2, m6, rfl, e⟩
    subst H'
    refine ⟨_, rfl, _, rfl, _, rfl, _, rfl, _, rfl, F2, b, rp, gp, tb, m2, ts, rs, gk, rfl, B3, tr, tg, tb2, tok, m6, fit, few, lg, ogk, fun tq rq gq rs2 gk2 F4 H5 B5 s24 htq tr2 tg2 lr2 fit2 lg2 ogk2 kgk2 => ?_⟩
    refine ⟨tq, _, rfl, .inl (.inl (B5.fh _ _ htq)), rfl, _, _, rfl, _, _, rfl, rfl, ?_⟩
    have l62 : rs2.length ≤ 6 := Nat.le_trans lr2 m6
    have few2 : RsFew rs2 := ⟨l62, fun r mr => (fit2.prok tok r mr).hi⟩
    have rsok2 : RsOk rs2 := ⟨l62, fit2.prok tok⟩
    have tr4 := tr.same s24
    have tg4 := tg.same s24
    have pp4 := s24 _ _ hpp
    clear B3 tr tg hpp htp hrp tb2 htq s24
    have lgr : (gk.map (renK (unks rs))).length ≤ 3 := by rw [List.length_map]; exact lg
    have lgr2 : (gk2.map (renK (unks rs2))).length ≤ 3 := by rw [List.length_map]; exact lg2
    have fewN := named_few few
    have fewN2 := named_few few2
    -- the patterns
    refine ⟨_, rfl, _, rfl, _, rfl, fun px pdx nx nd ne => pat_make nx nd ne (tr4.same B5.fh) (tg4.same B5.fh) (B5.fh _ _ pp4) pok rsok lg ogk kgk fun H6 s56 pat => ?_⟩
    have B6 := bag_same B5 s56
    refine ⟨_, rfl, _, rfl, fun pd hpd => fun po podx nx nd ne => ?_⟩
    have B7 := B6.new (.dK []) hpd
    have s67 : Same H6 (upd H6 pd (.dK [])) := same_new _ hpd
    have pd7 : (upd H6 pd (.dK [])) pd = some (.dK (pwK [])) := upd_same
    have sF : Same F4 (upd F4 pd (.dK [])) := same_new _ (B6.fh.free hpd)
    have pat7 := pat.same s67
    have B7' := bag_sub sF B7
    clear B7 B6 sF pat s56 hpd
    generalize upd H6 pd (.dK []) = H7 at *
    refine pat_make (pw := []) nx nd ne (tr2.same B7'.fh) (tg2.same B7'.fh) pd7 (pw_no _) rsok2 lg2 ogk2 kgk2 fun H8 s78 patO => ?_
    have B8 := bag_same B7' s78
    have pat8 := pat7.same s78
    clear B7' pd7 s78 s67 pat7 nx nd ne
    -- what is due
    refine ⟨_, rfl, _, rfl, fun pe hpe => ?_⟩
    have B9 := bag_sub (same_new (.dK []) (B8.fh.free hpe)) (B8.new (.dK []) hpe)
    have s89 : Same H8 (upd H8 pe (.dK [])) := same_new _ hpe
    have pe9 : (upd H8 pe (.dK [])) pe = some (.dK (pwK [])) := upd_same
    generalize upd H8 pe (.dK []) = H9 at *
    refine ⟨rp, gp, pe, rs, gk, [], rfl, tr4.same B9.fh, tg4.same B9.fh, pe9, few, lg, kgk, pw_no _, fun lf f1 f2 f3 H10 _ s9 hlf tf1 tf2 _ => ?_⟩
    have B10 := bag_same B9 s9
    have s810 := s89.trans s9
    clear B8 B9 s89 s9 pe9 hpe
    refine ⟨_, rfl, _, rfl, fun pe hpe => ?_⟩
    have B11 := bag_sub (same_new (.dK []) (B10.fh.free hpe)) (B10.new (.dK []) hpe)
    have s11 : Same H10 (upd H10 pe (.dK [])) := same_new _ hpe
    have pe11 : (upd H10 pe (.dK [])) pe = some (.dK (pwK [])) := upd_same
    generalize upd H10 pe (.dK []) = H11 at *
    refine ⟨rq, gq, pe, rs2, gk2, [], rfl, tr2.same B11.fh, tg2.same B11.fh, pe11, few2, lg2, kgk2, pw_no _, fun rf g1 g2 g3 H12 _ s12 hrf tg1 tg2' _ => ?_⟩
    have B12 := bag_same B11 s12
    have s1012 := s11.trans s12
    have pat12 := pat8.same (s810.trans s1012)
    have patO12 := patO.same (s810.trans s1012)
    have tf1 := tf1.same s1012
    have tf2 := tf2.same s1012
    have hlf := s1012 _ _ hlf
    clear B10 B11 s11 s12 pe11 hpe pat8 patO s810 s1012
    refine ⟨_, rfl, lf, _, _, _, rfl, rfl, .inl (.inl hlf), rfl, _, rfl, lf, _, _, _, rfl, rfl, .inl (.inl hlf), rfl, _, rfl, rf, _, _, _, rfl, rfl, .inl (.inl hrf), rfl, _, rfl, rf, _, _, _, rfl, rfl, .inl (.inl hrf), rfl,
      _, _, _, _, named2 rs, named2 rs2, _, _, rfl, tf1, tf2, tg1, tg2', fewN.1, fewN.2, fewN2.1, lgr, fun H13 s13 => ?_⟩
    have B13 := bag_same B12 s13
    have pat13 := pat12.same s13
    have patO13 := patO12.same s13
    have tf1 := tf1.same s13
    have tf2 := tf2.same s13
    have tg1 := tg1.same s13
    have tg2' := tg2'.same s13
    have hlf := s13 _ _ hlf
    have hrf := s13 _ _ hrf
    clear B12 pat12 patO12 s13
    -- the map
    refine ⟨fun σ' H' => ∃ v14 : V, σ' = [some (.ref sc), some (.ref b), some (.int (m2 : Int)), some (.ref tb), some (.ref rp), some (.ref gp), some (.ref pp), some (.ref rq), some (.ref gq), some (.ref px), some (.ref po), some (.ref lf), some (.ref rf), some (.bl (groupMap (named2 rs) (gk.map (renK (unks rs))) (named2 rs2) (gk2.map (renK (unks rs2)))).isSome), some v14, none] ∧ Same H13 H' ∧ ((v14 = .non ∧ groupMap (named2 rs) (gk.map (renK (unks rs))) (named2 rs2) (gk2.map (renK (unks rs2))) = none) ∨ ∃ (ia : Addr) (l : List Nat), v14 = .ref ia ∧ H' ia = some (.tup (natV l)) ∧ groupMap (named2 rs) (gk.map (renK (unks rs))) (named2 rs2) (gk2.map (renK (unks rs2))) = some l), ?_, ?_⟩
    · exact ⟨_, rfl, _, rfl, .inl ⟨px, po, named2 rs, named2 rs2, _, _, _, _, _, _, rfl, pat13, patO13, fewN, fewN2, lgr, fun e H' s => ⟨.non, rfl, s, .inl ⟨rfl, e⟩⟩, fun l e ia H' _ s hia => ⟨.ref ia, rfl, s, .inr ⟨ia, l, rfl, hia, e⟩⟩⟩⟩
    rintro σ' H14 ⟨v14, rfl, s14, hv⟩
    have B14 := bag_same B13 s14
    have pat14 := pat13.same s14
    have patO14 := patO13.same s14
    have tf1 := tf1.same s14
    have tf2 := tf2.same s14
    have tg1 := tg1.same s14
    have tg2' := tg2'.same s14
    have hlf := s14 _ _ hlf
    have hrf := s14 _ _ hrf
    clear B13 pat13 patO13 s14
    refine ⟨fun σ' H' => σ' = [some (.ref sc), some (.ref b), some (.int (m2 : Int)), some (.ref tb), some (.ref rp), some (.ref gp), some (.ref pp), some (.ref rq), some (.ref gq), some (.ref px), some (.ref po), some (.ref lf), some (.ref rf), some (.bl (groupMap (named2 rs) (gk.map (renK (unks rs))) (named2 rs2) (gk2.map (renK (unks rs2)))).isSome), some v14, none] ∧ H' = H14, ?_, ?_⟩
    · rcases hv with ⟨rfl, e⟩ | ⟨ia, l, rfl, hia, e⟩
      · rw [e]
        exact ⟨_, rfl, rfl, _, rfl, rfl, _, rfl, iteF ⟨rfl, rfl⟩⟩
      · rw [e]
        exact ⟨_, rfl, rfl, _, rfl, rfl, _, rfl, iteF ⟨rfl, rfl⟩⟩
    rintro σ' H' ⟨rfl, e⟩
    subst H'
    refine ⟨fun σ' H' => σ' = [some (.ref sc), some (.ref b), some (.int (m2 : Int)), some (.ref tb), some (.ref rp), some (.ref gp), some (.ref pp), some (.ref rq), some (.ref gq), some (.ref px), some (.ref po), some (.ref lf), some (.ref rf), some (.bl (groupMap (named2 rs) (gk.map (renK (unks rs))) (named2 rs2) (gk2.map (renK (unks rs2)))).isSome), some v14, none] ∧ Same H14 H', ?_, ?_⟩
    · rcases hv with ⟨rfl, e⟩ | ⟨ia, l, rfl, hia, e⟩
      · rw [e]
        exact ⟨_, rfl, _, rfl, iteF (iteF ⟨rfl, Same.refl _⟩)⟩
      · rw [e]
        obtain ⟨m1, m2, m3⟩ := groupMap_sound e
        exact ⟨_, rfl, _, rfl, iteT ⟨_, rfl, lf, _, _, _, rfl, rfl, .inl (.inl hlf), rfl, _, rfl, lf, _, _, _, rfl, rfl, .inl (.inl hlf), rfl, _, rfl, rf, _, _, _, rfl, rfl, .inl (.inl hrf), rfl, _, rfl, rf, _, _, _, rfl, rfl, .inl (.inl hrf), rfl, _, rfl,
          _, _, _, _, ia, named2 rs, named2 rs2, _, _, l, rfl, tf1, tf2, tg1, tg2', hia, m1, m2, fewN.1, fewN.2, fewN2.1, lgr, m3, fun H' s => ⟨_, rfl, iteF ⟨rfl, s⟩⟩⟩⟩
    rintro σ' H15 ⟨rfl, s15⟩
    have B15 := bag_same B14 s15
    have pat15 := pat14.same s15
    have patO15 := patO14.same s15
    clear B14 pat14 patO14 s15 tf1 tf2 tg1 tg2' hlf hrf hv
    -- into the same pattern
    obtain ⟨ls, els⟩ := Option.isSome_iff_exists.mp (groupMap_self (named2 rs) (gk.map (renK (unks rs))))
    refine ⟨_, rfl, _, rfl, fun pd hpd => fun ps psdx nx nd ne => ?_⟩
    have B16 := bag_sub (same_new (.dK []) (B15.fh.free hpd)) (B15.new (.dK []) hpd)
    have s16 : Same H15 (upd H15 pd (.dK [])) := same_new _ hpd
    have pd16 : (upd H15 pd (.dK [])) pd = some (.dK (pwK [])) := upd_same
    have pat16 := pat15.same s16
    have patO16 := patO15.same s16
    clear B15 pat15 patO15 s16 hpd
    generalize upd H15 pd (.dK []) = H16 at *
    refine pat_make (pw := []) nx nd ne (tr4.same B16.fh) (tg4.same B16.fh) pd16 (pw_no _) rsok lg ogk kgk fun H17 s17 patS => ?_
    have B17 := bag_same B16 s17
    have pat17 := pat16.same s17
    have patO17 := patO16.same s17
    clear B16 pat16 patO16 s17 pd16 nx nd ne
    refine ⟨_, rfl, .inl ⟨ps, px, named2 rs, named2 rs, _, _, _, _, _, _, rfl, patS, pat17, fewN, fewN, lgr, (fun e => by rw [els] at e; cases e), fun _ _ ia H18 _ s18 _ => ⟨rfl, _, rfl, iteF ?_⟩⟩⟩
    have B18 := bag_same B17 s18
    have pat18 := pat17.same s18
    have patO18 := patO17.same s18
    clear B17 pat17 patO17 s18 patS
    refine ⟨_, rfl, _, rfl, _, rfl, fun pd hpd => fun ps psdx nx nd ne => ?_⟩
    have B19 := bag_sub (same_new (.dK []) (B18.fh.free hpd)) (B18.new (.dK []) hpd)
    have s19 : Same H18 (upd H18 pd (.dK [])) := same_new _ hpd
    have pd19 : (upd H18 pd (.dK [])) pd = some (.dK (pwK [])) := upd_same
    have pat19 := pat18.same s19
    have patO19 := patO18.same s19
    clear B18 pat18 patO18 s19 hpd
    generalize upd H18 pd (.dK []) = H19 at *
    refine pat_make (pw := []) nx nd ne (tr4.same B19.fh) (tg4.same B19.fh) pd19 (pw_no _) rsok lg ogk kgk fun H20 s20 patS => ?_
    have B20 := bag_same B19 s20
    have pat20 := pat19.same s20
    have patO20 := patO19.same s20
    clear B19 pat19 patO19 s20 pd19 nx nd ne
    refine .inl ⟨px, ps, named2 rs, named2 rs, _, _, _, _, _, _, rfl, pat20, patS, fewN, fewN, lgr, (fun e => by rw [els] at e; cases e), fun _ _ ia H21 _ s21 _ => ⟨rfl, _, rfl, iteF ?_⟩⟩
    have B21 := bag_same B20 s21
    have pat21 := pat20.same s21
    have patO21 := patO20.same s21
    clear B20 pat20 patO20 s21 patS
    -- what is no pattern
    refine ⟨(by show 0 ≤ sizeLine; decide), fun t ht => ⟨(by show 0 ≤ sizeLine; decide), fun l hl => fun d hd => ⟨_, rfl, (by show 8 ≤ sizeLine; decide), fun L hL => ?_⟩⟩⟩
    have C1 := B21.new (.tup []) ht
    have C2 := C1.new (.lst []) hl
    have C3 := C2.new (.dK []) hd
    have C4 := C3.new (.lst [.non, .int 3, .str "a", .ref t, .ref l, .ref d, .bl true, .ref rq]) hL
    have w1 := same_new (.tup []) (B21.fh.free ht)
    have w2 := same_new (.lst []) (C1.fh.free hl)
    have w3 := same_new (.dK []) (C2.fh.free hd)
    have w4 := same_new (.lst [.non, .int 3, .str "a", .ref t, .ref l, .ref d, .bl true, .ref rq]) (C3.fh.free hL)
    have t4 := w4 _ _ (w3 _ _ (w2 _ _ (show (upd F4 t (.tup [])) t = some (.tup []) from upd_same)))
    have l4 := w4 _ _ (w3 _ _ (show (upd (upd F4 t (.tup [])) l (.lst [])) l = some (.lst []) from upd_same))
    have d4 := w4 _ _ (show (upd (upd (upd F4 t (.tup [])) l (.lst [])) d (.dK [])) d = some (.dK []) from upd_same)
    have sF := ((w1.trans w2).trans w3).trans w4
    have L4 : (upd (upd (upd (upd F4 t (.tup [])) l (.lst [])) d (.dK [])) L (.lst [.non, .int 3, .str "a", .ref t, .ref l, .ref d, .bl true, .ref rq])) L = some (.lst [.non, .int 3, .str "a", .ref t, .ref l, .ref d, .bl true, .ref rq]) := upd_same
    have sH := (((same_new (.tup []) ht).trans (same_new (.lst []) hl)).trans (same_new (.dK []) hd)).trans (same_new (.lst [.non, .int 3, .str "a", .ref t, .ref l, .ref d, .bl true, .ref rq]) hL)
    have pat22 := pat21.same sH
    have patO22 := patO21.same sH
    clear w1 w2 w3 w4 C1 C2 C3 sH pat21 patO21 ht hl hd hL
    generalize upd (upd (upd (upd F4 t (.tup [])) l (.lst [])) d (.dK [])) L (.lst [.non, .int 3, .str "a", .ref t, .ref l, .ref d, .bl true, .ref rq]) = F5 at *
    generalize upd (upd (upd (upd H21 t (.tup [])) l (.lst [])) d (.dK [])) L (.lst [.non, .int 3, .str "a", .ref t, .ref l, .ref d, .bl true, .ref rq]) = H22 at *
    obtain ⟨cl, l1, l2, ecl, eb, ncb, BW, sW⟩ := C4.wide
    have patW := (pat22.cutL eb).cutL (show (cut H22 b) cl = some (.lst l1) from by rw [cut_ne ncb]; exact ecl)
    have patOW := (patO22.cutL eb).cutL (show (cut H22 b) cl = some (.lst l1) from by rw [cut_ne ncb]; exact ecl)
    refine ⟨_, rfl, _, b, 8, rfl, by decide, by decide, BW, fun r H23 r0 r1 B23 => ?_⟩
    obtain ⟨v, hv, hm⟩ := at_mem (xs := [V.non, .int 3, .str "a", .ref t, .ref l, .ref d, .bl true, .ref rq]) r0 r1
    refine ⟨L, _, _, _, rfl, rfl, .inl (.inl (B23.fh _ _ (sW _ _ L4))), hv, ?_⟩
    obtain ⟨d0, tv⟩ : ∃ d0, Tp H23 v d0 := by
      have s5 := sW.trans B23.fh
      simp only [List.mem_cons, List.mem_nil_iff, or_false] at hm
      rcases hm with rfl | rfl | rfl | rfl | rfl | rfl | rfl | rfl
      · exact ⟨.none, .non⟩
      · exact ⟨.int 3, .int 3⟩
      · exact ⟨.str "a", .str _⟩
      · exact ⟨.tuple [], .tup (s5 _ _ t4) .nil⟩
      · exact ⟨.list [], .lst (s5 _ _ l4) .nil⟩
      · exact ⟨.dict [], .dct (s5 _ _ d4) .nil List.nodup_nil⟩
      · exact ⟨.bool true, .bl true⟩
      · exact ⟨_, (tr2.same sF).same s5⟩
    have pat23 := patW.same B23.fh
    refine ⟨_, rfl, _, rfl, v, .ref po, rfl, .inl ⟨d0, tv⟩, fun H24 s24 => ⟨_, rfl, iteT ?_⟩⟩
    refine ⟨_, rfl, _, rfl, .ref px, v, rfl, .inr ⟨px, _, _, _, _, rfl, pat23.same s24, d0, tv.same s24⟩, fun H25 s25 => ⟨_, rfl, iteT ?_⟩⟩
    exact ⟨_, rfl, _, rfl, v, v, rfl, .inl ⟨d0, tv.same (s24.trans s25)⟩, fun H26 _ => k _⟩
end
end Fm

/-! ## K32R -/
set_option Elab.async false
set_option maxRecDepth 100000
set_option maxHeartbeats 4000000
namespace Fm
open PySem L2
section
variable {P : Program} {w : World} {K : PySem.W.Frag} {mg : Str → Option Value} {base : Heap}
abbrev s_BadPattern_init : Stmt := inClass (topS 11) 0
abbrev sc_BadPattern_initN : List Str := ["self", "at"]
abbrev ps_BadPattern_init : List Str := ["self", "at"]
theorem sc_BadPattern_init : FnScope sc_BadPattern_initN ps_BadPattern_init (defScope s_BadPattern_init) := ⟨rfl, rfl, rfl, by decide +kernel, rfl, by decide +kernel, by decide +kernel⟩
theorem ok_BadPattern {f : Addr} {fd : FuncData} (F : Fun K "__init__" "BadPattern.__init__" s_BadPattern_init f fd) : FnOk P w K mg base CX0 1 f fd ps_BadPattern_init (spIn K "at") := by
  refine F.ok sc_BadPattern_init (fun vs H Q E h => ?_) (fun cdv A outer s H vs Q E hr h => ?_)
  · obtain ⟨_, _, _, rfl, _⟩ := h
    rfl
  · obtain ⟨a, C, v, rfl, T, ha, hno, k⟩ := h
    exact ⟨_, pss_one (ps_ost (pv 0) (pv 1)), _, rfl, _, rfl, a, C, rfl, T, hno, .inl ⟨ha, fun dx h1 h2 => k dx h1 h2⟩⟩
end
end Fm

/-! ## FmErr -/
set_option Elab.async false
set_option maxRecDepth 100000
set_option maxHeartbeats 4000000
/-! What the classes of the own errors say of themselves, for the end of a law. -/
namespace Fm
open PySem L2
def veC : List Value := [.type "ValueError", .type "Exception", .type "BaseException", .type "object"]
/-- what an error's class says of itself -/
def exB (K : PySem.W.Frag) (C : Addr) : Bool :=
  decide (PySem.W.findIn K (.ref C) "__getattribute__" = some (some (.builtin "BaseException.__getattribute__"))) && decide (PySem.W.findIn K (.ref C) "__getattr__" = some none) && decide (PySem.W.subIn K (.ref C) (.type "BaseException") = some true) && PySem.W.hasDictIn K C &&
  decide (PySem.W.findIn K (.ref C) "__class__" = some (some (.builtin "object.__class__"))) && decide (PySem.W.mroIn K C (.type "object") = some true) && decide (PySem.W.typeIn K (.ref C) = some (.type "type")) && PySem.W.keepIn K (.ref C) &&
  decide (PySem.W.findIn K (.ref C) "__setattr__" = some (some (.builtin "object.__setattr__")))
structure ExF (K : PySem.W.Frag) (C : Addr) : Prop where
  ga : PySem.W.findIn K (.ref C) "__getattribute__" = some (some (.builtin "BaseException.__getattribute__"))
  gg : PySem.W.findIn K (.ref C) "__getattr__" = some none
  sb : PySem.W.subIn K (.ref C) (.type "BaseException") = some true
  hd : PySem.W.hasDictIn K C = true
  cc : PySem.W.findIn K (.ref C) "__class__" = some (some (.builtin "object.__class__"))
  mo : PySem.W.mroIn K C (.type "object") = some true
  ty : PySem.W.typeIn K (.ref C) = some (.type "type")
  kp : PySem.W.keepIn K (.ref C) = true
  sa : PySem.W.findIn K (.ref C) "__setattr__" = some (some (.builtin "object.__setattr__"))
theorem exB_ok {K : PySem.W.Frag} {C : Addr} (h : exB K C = true) : ExF K C := by
  simp only [exB, Bool.and_eq_true, decide_eq_true_eq] at h
  obtain ⟨⟨⟨⟨⟨⟨⟨⟨h1, h2⟩, h3⟩, h4⟩, h5⟩, h6⟩, h7⟩, h8⟩, h9⟩ := h
  exact ⟨h1, h2, h3, h4, h5, h6, h7, h8, h9⟩
theorem kbn_one {K : PySem.W.Frag} {fd : FuncData} {f : Str} (h : ∀ u w : Value, bindArgs fd ⟨[u], [(f, w)]⟩ = pure [(("self" : Str), u), (f, w)]) : KBn K fd ["self", f] 1 [f] (fun us ws => us ++ ws) (fun vs zs => vs ++ zs) :=
  ⟨fun s us ws _ l1 l2 => match us, ws, l1, l2 with | [u], [w], _, _ => .of_eq (h u w), fun r1 r2 => r1.append r2⟩
/-- a list of errors: those with a field (and its name), those without; cs: the classes, in this order -/
def errsB (K : PySem.W.Frag) (fs : List (Addr × Str)) (zs : List Addr) : Bool :=
  (fs.all fun p => exB K p.1 && decide (PySem.W.findIn K (.ref p.1) p.2 = some none)) && (zs.all fun c => exB K c && PySem.W.excIn K c veC "ValueError.__new__") &&
  ((List.range (fs.length + zs.length)).all fun i => (List.range (fs.length + zs.length)).all fun j => decide (PySem.W.subIn K (.ref ((fs.map (·.1) ++ zs).getD i 0)) (.ref ((fs.map (·.1) ++ zs).getD j 0)) = some (decide (i = j))))
theorem errs_f {K : PySem.W.Frag} {fs : List (Addr × Str)} {zs : List Addr} (h : errsB K fs zs = true) : ∀ p ∈ fs, ExF K p.1 ∧ PySem.W.findIn K (.ref p.1) p.2 = some none := fun p m => by
  simp only [errsB, Bool.and_eq_true, List.all_eq_true, decide_eq_true_eq] at h
  exact ⟨exB_ok (h.1.1 p m).1, (h.1.1 p m).2⟩
theorem errs_z {K : PySem.W.Frag} {fs : List (Addr × Str)} {zs : List Addr} (h : errsB K fs zs = true) : ∀ c ∈ zs, ExF K c ∧ PySem.W.excIn K c veC "ValueError.__new__" = true := fun p m => by
  simp only [errsB, Bool.and_eq_true, List.all_eq_true, decide_eq_true_eq] at h
  exact ⟨exB_ok (h.1.2 p m).1, (h.1.2 p m).2⟩
theorem errs_s {K : PySem.W.Frag} {fs : List (Addr × Str)} {zs : List Addr} (h : errsB K fs zs = true) (i j : Nat) (hi : i < fs.length + zs.length) (hj : j < fs.length + zs.length) : PySem.W.subIn K (.ref ((fs.map (·.1) ++ zs).getD i 0)) (.ref ((fs.map (·.1) ++ zs).getD j 0)) = some (decide (i = j)) := by
  simp only [errsB, Bool.and_eq_true, List.all_eq_true, decide_eq_true_eq, List.mem_range] at h
  exact h.2 i hi j hj
end Fm

/-! ## K32M -/
set_option Elab.async false
set_option maxRecDepth 100000
set_option maxHeartbeats 16000000
namespace Fm
open PySem L2
/-! ### what the top has written, the head -/
theorem all_mk {l : PySem.W.OpenLaw} {w : World} {K : PySem.W.Frag} {h : Heap} {mg : Str → Option Value} {fa CE CP CQ f0 f1 f2 f3 f4 f5 f6 f7 f8 f9 f10 f11 f12 f13 f14 f15 f16 f17 f18 f19 f20 f21 f22 f23 f24 f25 f26 f27 f28 f29 f30 f31 f32 f33 f34 f35 f36 f37 f38 f39 : Addr} (X : K.In h) (G : h.Ns mainGlobals mg) (hfa : mg "law" = some (.ref fa))
    {od0 an0 od1 an1 od2 an2 od3 an3 od4 an4 od5 an5 od6 an6 od7 an7 od8 an8 od9 an9 od10 an10 od11 an11 od12 an12 od13 an13 od14 an14 od15 an15 od16 an16 od17 an17 od18 an18 od19 an19 od20 an20 od21 an21 od22 an22 od23 an23 od24 an24 od25 an25 od26 an26 od27 an27 od28 an28 od29 an29 od30 an30 od31 an31 od32 an32 od33 an33 od34 an34 od35 an35 od36 an36 od37 an37 od38 an38 od39 an39 : Option Addr}
    {sl0 sl1 sl2 sl3 sl4 sl5 sl6 sl7 sl8 sl9 sl10 sl11 sl12 sl13 sl14 sl15 sl16 sl17 sl18 sl19 sl20 sl21 sl22 sl23 sl24 sl25 sl26 sl27 sl28 sl29 sl30 sl31 sl32 sl33 sl34 sl35 sl36 sl37 sl38 sl39 : Array (Option Value)}
    {oc0 kV0 dc0 pm0 cd0 ct0 oc1 kV1 dc1 pm1 cd1 ct1 oc2 kV2 dc2 pm2 cd2 ct2 oc3 kV3 dc3 pm3 cd3 ct3 oc4 kV4 dc4 pm4 cd4 ct4 oc5 kV5 dc5 pm5 cd5 ct5 oc6 kV6 dc6 pm6 cd6 ct6 oc7 kV7 dc7 pm7 cd7 ct7 oc8 kV8 dc8 pm8 cd8 ct8 oc9 kV9 dc9 pm9 cd9 ct9 oc10 kV10 dc10 pm10 cd10 ct10 oc11 kV11 dc11 pm11 cd11 ct11 oc12 kV12 dc12 pm12 cd12 ct12 oc13 kV13 dc13 pm13 cd13 ct13 oc14 kV14 dc14 pm14 cd14 ct14 oc15 kV15 dc15 pm15 cd15 ct15 oc16 kV16 dc16 pm16 cd16 ct16 oc17 kV17 dc17 pm17 cd17 ct17 oc18 kV18 dc18 pm18 cd18 ct18 oc19 kV19 dc19 pm19 cd19 ct19 oc20 kV20 dc20 pm20 cd20 ct20 oc21 kV21 dc21 pm21 cd21 ct21 oc22 kV22 dc22 pm22 cd22 ct22 oc23 kV23 dc23 pm23 cd23 ct23 oc24 kV24 dc24 pm24 cd24 ct24 oc25 kV25 dc25 pm25 cd25 ct25 oc26 kV26 dc26 pm26 cd26 ct26 oc27 kV27 dc27 pm27 cd27 ct27 oc28 kV28 dc28 pm28 cd28 ct28 oc29 kV29 dc29 pm29 cd29 ct29 oc30 kV30 dc30 pm30 cd30 ct30 oc31 kV31 dc31 pm31 cd31 ct31 oc32 kV32 dc32 pm32 cd32 ct32 oc33 kV33 dc33 pm33 cd33 ct33 oc34 kV34 dc34 pm34 cd34 ct34 oc35 kV35 dc35 pm35 cd35 ct35 oc36 kV36 dc36 pm36 cd36 ct36 oc37 kV37 dc37 pm37 cd37 ct37 oc38 kV38 dc38 pm38 cd38 ct38 oc39 kV39 dc39 pm39 cd39 ct39 : Value}
    {nm0 qn0 : Str} {N0 : Addr} {bs0 : List Value} {sn0 : List Str} {sub0 : List Value} {ab0 : Bool} {col0 : Option Bool} {dd0 : Option Addr} {m00_ m10_ m20_ m30_ m50_ : Option Value}
    (aC_Pattern : PySem.W.nsIn K mainGlobals "Pattern" = some (some (.ref CP)))
    (aC_BadPattern : PySem.W.nsIn K mainGlobals "BadPattern" = some (some (.ref CQ)))
    (xL0 : K.lookup CQ = some (excClassObj nm0 qn0 CQ N0 bs0 [.ref CE, .type "ValueError", .type "Exception", .type "BaseException", .type "object"] true sn0 sub0 ab0 col0 dd0 m00_ m10_ m20_ m30_ m50_ "ValueError.__new__"))
    (a0 : PySem.W.nsIn K mainGlobals "_law_pick" = some (some (.ref f0)))
    (l0 : K.lookup f0 = some ⟨oc0, od0, .func (PySem.W.fnOf "_law_pick" "_law_pick" (defArgs s_l_pick) (defBody s_l_pick) (defScope s_l_pick) .none kV0 dc0 pm0 an0 cd0 ct0), sl0⟩)
    (c0 : PySem.W.codeIn K cd0 "_law_pick" = true)
    (k0 : PySem.W.keepIn K (.ref f0) = true)
    (a1 : PySem.W.nsIn K mainGlobals "is_name" = some (some (.ref f1)))
    (l1 : K.lookup f1 = some ⟨oc1, od1, .func (PySem.W.fnOf "is_name" "is_name" (defArgs s_is_name) (defBody s_is_name) (defScope s_is_name) .none kV1 dc1 pm1 an1 cd1 ct1), sl1⟩)
    (c1 : PySem.W.codeIn K cd1 "is_name" = true)
    (k1 : PySem.W.keepIn K (.ref f1) = true)
    (a2 : PySem.W.nsIn K mainGlobals "is_row" = some (some (.ref f2)))
    (l2 : K.lookup f2 = some ⟨oc2, od2, .func (PySem.W.fnOf "is_row" "is_row" (defArgs s_is_row) (defBody s_is_row) (defScope s_is_row) .none kV2 dc2 pm2 an2 cd2 ct2), sl2⟩)
    (c2 : PySem.W.codeIn K cd2 "is_row" = true)
    (k2 : PySem.W.keepIn K (.ref f2) = true)
    (a3 : PySem.W.nsIn K mainGlobals "is_tuple" = some (some (.ref f3)))
    (l3 : K.lookup f3 = some ⟨oc3, od3, .func (PySem.W.fnOf "is_tuple" "is_tuple" (defArgs s_is_tuple) (defBody s_is_tuple) (defScope s_is_tuple) .none kV3 dc3 pm3 an3 cd3 ct3), sl3⟩)
    (c3 : PySem.W.codeIn K cd3 "is_tuple" = true)
    (k3 : PySem.W.keepIn K (.ref f3) = true)
    (a4 : PySem.W.nsIn K mainGlobals "_law_bag" = some (some (.ref f4)))
    (l4 : K.lookup f4 = some ⟨oc4, od4, .func (PySem.W.fnOf "_law_bag" "_law_bag" (defArgs s_l_bag) (defBody s_l_bag) (defScope s_l_bag) .none kV4 dc4 pm4 an4 cd4 ct4), sl4⟩)
    (c4 : PySem.W.codeIn K cd4 "_law_bag" = true)
    (k4 : PySem.W.keepIn K (.ref f4) = true)
    (a5 : PySem.W.nsIn K mainGlobals "_law_name" = some (some (.ref f5)))
    (l5 : K.lookup f5 = some ⟨oc5, od5, .func (PySem.W.fnOf "_law_name" "_law_name" (defArgs s_l_name) (defBody s_l_name) (defScope s_l_name) .none kV5 dc5 pm5 an5 cd5 ct5), sl5⟩)
    (c5 : PySem.W.codeIn K cd5 "_law_name" = true)
    (k5 : PySem.W.keepIn K (.ref f5) = true)
    (a6 : PySem.W.nsIn K mainGlobals "is_integer" = some (some (.ref f6)))
    (l6 : K.lookup f6 = some ⟨oc6, od6, .func (PySem.W.fnOf "is_integer" "is_integer" (defArgs s_is_integer) (defBody s_is_integer) (defScope s_is_integer) .none kV6 dc6 pm6 an6 cd6 ct6), sl6⟩)
    (c6 : PySem.W.codeIn K cd6 "is_integer" = true)
    (k6 : PySem.W.keepIn K (.ref f6) = true)
    (a7 : PySem.W.nsIn K mainGlobals "is_value" = some (some (.ref f7)))
    (l7 : K.lookup f7 = some ⟨oc7, od7, .func (PySem.W.fnOf "is_value" "is_value" (defArgs s_is_value) (defBody s_is_value) (defScope s_is_value) .none kV7 dc7 pm7 an7 cd7 ct7), sl7⟩)
    (c7 : PySem.W.codeIn K cd7 "is_value" = true)
    (k7 : PySem.W.keepIn K (.ref f7) = true)
    (a8 : PySem.W.nsIn K mainGlobals "is_unknown" = some (some (.ref f8)))
    (l8 : K.lookup f8 = some ⟨oc8, od8, .func (PySem.W.fnOf "is_unknown" "is_unknown" (defArgs s_is_unknown) (defBody s_is_unknown) (defScope s_is_unknown) .none kV8 dc8 pm8 an8 cd8 ct8), sl8⟩)
    (c8 : PySem.W.codeIn K cd8 "is_unknown" = true)
    (k8 : PySem.W.keepIn K (.ref f8) = true)
    (a9 : PySem.W.nsIn K mainGlobals "is_pattern_row" = some (some (.ref f9)))
    (l9 : K.lookup f9 = some ⟨oc9, od9, .func (PySem.W.fnOf "is_pattern_row" "is_pattern_row" (defArgs s_is_pattern_row) (defBody s_is_pattern_row) (defScope s_is_pattern_row) .none kV9 dc9 pm9 an9 cd9 ct9), sl9⟩)
    (c9 : PySem.W.codeIn K cd9 "is_pattern_row" = true)
    (k9 : PySem.W.keepIn K (.ref f9) = true)
    (a10 : PySem.W.nsIn K mainGlobals "are_pattern_rows" = some (some (.ref f10)))
    (l10 : K.lookup f10 = some ⟨oc10, od10, .func (PySem.W.fnOf "are_pattern_rows" "are_pattern_rows" (defArgs s_are_pattern_rows) (defBody s_are_pattern_rows) (defScope s_are_pattern_rows) .none kV10 dc10 pm10 an10 cd10 ct10), sl10⟩)
    (c10 : PySem.W.codeIn K cd10 "are_pattern_rows" = true)
    (k10 : PySem.W.keepIn K (.ref f10) = true)
    (a11 : PySem.W.nsIn K mainGlobals "unknowns_of" = some (some (.ref f11)))
    (l11 : K.lookup f11 = some ⟨oc11, od11, .func (PySem.W.fnOf "unknowns_of" "unknowns_of" (defArgs s_unknowns_of) (defBody s_unknowns_of) (defScope s_unknowns_of) .none kV11 dc11 pm11 an11 cd11 ct11), sl11⟩)
    (c11 : PySem.W.codeIn K cd11 "unknowns_of" = true)
    (k11 : PySem.W.keepIn K (.ref f11) = true)
    (a12 : PySem.W.nsIn K mainGlobals "named" = some (some (.ref f12)))
    (l12 : K.lookup f12 = some ⟨oc12, od12, .func (PySem.W.fnOf "named" "named" (defArgs s_named) (defBody s_named) (defScope s_named) .none kV12 dc12 pm12 an12 cd12 ct12), sl12⟩)
    (c12 : PySem.W.codeIn K cd12 "named" = true)
    (k12 : PySem.W.keepIn K (.ref f12) = true)
    (a13 : PySem.W.nsIn K mainGlobals "renamed" = some (some (.ref f13)))
    (l13 : K.lookup f13 = some ⟨oc13, od13, .func (PySem.W.fnOf "renamed" "renamed" (defArgs s_renamed) (defBody s_renamed) (defScope s_renamed) .none kV13 dc13 pm13 an13 cd13 ct13), sl13⟩)
    (c13 : PySem.W.codeIn K cd13 "renamed" = true)
    (k13 : PySem.W.keepIn K (.ref f13) = true)
    (a14 : PySem.W.nsIn K mainGlobals "is_known_symbol" = some (some (.ref f14)))
    (l14 : K.lookup f14 = some ⟨oc14, od14, .func (PySem.W.fnOf "is_known_symbol" "is_known_symbol" (defArgs s_is_known_symbol) (defBody s_is_known_symbol) (defScope s_is_known_symbol) .none kV14 dc14 pm14 an14 cd14 ct14), sl14⟩)
    (c14 : PySem.W.codeIn K cd14 "is_known_symbol" = true)
    (k14 : PySem.W.keepIn K (.ref f14) = true)
    (a15 : PySem.W.nsIn K mainGlobals "are_powers" = some (some (.ref f15)))
    (l15 : K.lookup f15 = some ⟨oc15, od15, .func (PySem.W.fnOf "are_powers" "are_powers" (defArgs s_are_powers) (defBody s_are_powers) (defScope s_are_powers) .none kV15 dc15 pm15 an15 cd15 ct15), sl15⟩)
    (c15 : PySem.W.codeIn K cd15 "are_powers" = true)
    (k15 : PySem.W.keepIn K (.ref f15) = true)
    (a16 : PySem.W.findIn K (.ref CP) "__init__" = some (some (.ref f16)))
    (i16 : PySem.W.isFn K (.ref f16) = true)
    (l16 : K.lookup f16 = some ⟨oc16, od16, .func (PySem.W.fnOf "__init__" "Pattern.__init__" (defArgs s_Pattern_init) (defBody s_Pattern_init) (defScope s_Pattern_init) .none kV16 dc16 pm16 an16 cd16 ct16), sl16⟩)
    (c16 : PySem.W.codeIn K cd16 "Pattern.__init__" = true)
    (k16 : PySem.W.keepIn K (.ref f16) = true)
    (a17 : PySem.W.nsIn K mainGlobals "_law_tables" = some (some (.ref f17)))
    (l17 : K.lookup f17 = some ⟨oc17, od17, .func (PySem.W.fnOf "_law_tables" "_law_tables" (defArgs s_l_tables) (defBody s_l_tables) (defScope s_l_tables) .none kV17 dc17 pm17 an17 cd17 ct17), sl17⟩)
    (c17 : PySem.W.codeIn K cd17 "_law_tables" = true)
    (k17 : PySem.W.keepIn K (.ref f17) = true)
    (a18 : PySem.W.nsIn K mainGlobals "_law_value" = some (some (.ref f18)))
    (l18 : K.lookup f18 = some ⟨oc18, od18, .func (PySem.W.fnOf "_law_value" "_law_value" (defArgs s_l_value) (defBody s_l_value) (defScope s_l_value) .none kV18 dc18 pm18 an18 cd18 ct18), sl18⟩)
    (c18 : PySem.W.codeIn K cd18 "_law_value" = true)
    (k18 : PySem.W.keepIn K (.ref f18) = true)
    (a19 : PySem.W.nsIn K mainGlobals "_law_pool" = some (some (.ref f19)))
    (l19 : K.lookup f19 = some ⟨oc19, od19, .func (PySem.W.fnOf "_law_pool" "_law_pool" (defArgs s_l_pool) (defBody s_l_pool) (defScope s_l_pool) .none kV19 dc19 pm19 an19 cd19 ct19), sl19⟩)
    (c19 : PySem.W.codeIn K cd19 "_law_pool" = true)
    (k19 : PySem.W.keepIn K (.ref f19) = true)
    (a20 : PySem.W.nsIn K mainGlobals "_law_pattern" = some (some (.ref f20)))
    (l20 : K.lookup f20 = some ⟨oc20, od20, .func (PySem.W.fnOf "_law_pattern" "_law_pattern" (defArgs s_l_pattern) (defBody s_l_pattern) (defScope s_l_pattern) .none kV20 dc20 pm20 an20 cd20 ct20), sl20⟩)
    (c20 : PySem.W.codeIn K cd20 "_law_pattern" = true)
    (k20 : PySem.W.keepIn K (.ref f20) = true)
    (a21 : PySem.W.nsIn K mainGlobals "extended" = some (some (.ref f21)))
    (l21 : K.lookup f21 = some ⟨oc21, od21, .func (PySem.W.fnOf "extended" "extended" (defArgs s_extended) (defBody s_extended) (defScope s_extended) .none kV21 dc21 pm21 an21 cd21 ct21), sl21⟩)
    (c21 : PySem.W.codeIn K cd21 "extended" = true)
    (k21 : PySem.W.keepIn K (.ref f21) = true)
    (a22 : PySem.W.nsIn K mainGlobals "places_of" = some (some (.ref f22)))
    (l22 : K.lookup f22 = some ⟨oc22, od22, .func (PySem.W.fnOf "places_of" "places_of" (defArgs s_places_of) (defBody s_places_of) (defScope s_places_of) .none kV22 dc22 pm22 an22 cd22 ct22), sl22⟩)
    (c22 : PySem.W.codeIn K cd22 "places_of" = true)
    (k22 : PySem.W.keepIn K (.ref f22) = true)
    (a23 : PySem.W.nsIn K mainGlobals "map_from" = some (some (.ref f23)))
    (l23 : K.lookup f23 = some ⟨oc23, od23, .func (PySem.W.fnOf "map_from" "map_from" (defArgs s_map_from) (defBody s_map_from) (defScope s_map_from) .none kV23 dc23 pm23 an23 cd23 ct23), sl23⟩)
    (c23 : PySem.W.codeIn K cd23 "map_from" = true)
    (k23 : PySem.W.keepIn K (.ref f23) = true)
    (a24 : PySem.W.nsIn K mainGlobals "check_pattern" = some (some (.ref f24)))
    (l24 : K.lookup f24 = some ⟨oc24, od24, .func (PySem.W.fnOf "check_pattern" "check_pattern" (defArgs s_check_pattern) (defBody s_check_pattern) (defScope s_check_pattern) .none kV24 dc24 pm24 an24 cd24 ct24), sl24⟩)
    (c24 : PySem.W.codeIn K cd24 "check_pattern" = true)
    (k24 : PySem.W.keepIn K (.ref f24) = true)
    (a25 : PySem.W.nsIn K mainGlobals "map_between" = some (some (.ref f25)))
    (l25 : K.lookup f25 = some ⟨oc25, od25, .func (PySem.W.fnOf "map_between" "map_between" (defArgs s_map_between) (defBody s_map_between) (defScope s_map_between) .none kV25 dc25 pm25 an25 cd25 ct25), sl25⟩)
    (c25 : PySem.W.codeIn K cd25 "map_between" = true)
    (k25 : PySem.W.keepIn K (.ref f25) = true)
    (a26 : PySem.W.nsIn K mainGlobals "group_map" = some (some (.ref f26)))
    (l26 : K.lookup f26 = some ⟨oc26, od26, .func (PySem.W.fnOf "group_map" "group_map" (defArgs s_group_map) (defBody s_group_map) (defScope s_group_map) .none kV26 dc26 pm26 an26 cd26 ct26), sl26⟩)
    (c26 : PySem.W.codeIn K cd26 "group_map" = true)
    (k26 : PySem.W.keepIn K (.ref f26) = true)
    (a27 : PySem.W.nsIn K mainGlobals "_law_sent" = some (some (.ref f27)))
    (l27 : K.lookup f27 = some ⟨oc27, od27, .func (PySem.W.fnOf "_law_sent" "_law_sent" (defArgs s_l_sent) (defBody s_l_sent) (defScope s_l_sent) .none kV27 dc27 pm27 an27 cd27 ct27), sl27⟩)
    (c27 : PySem.W.codeIn K cd27 "_law_sent" = true)
    (k27 : PySem.W.keepIn K (.ref f27) = true)
    (a28 : PySem.W.nsIn K mainGlobals "_law_map_over" = some (some (.ref f28)))
    (l28 : K.lookup f28 = some ⟨oc28, od28, .func (PySem.W.fnOf "_law_map_over" "_law_map_over" (defArgs s_l_map_over) (defBody s_l_map_over) (defScope s_l_map_over) .none kV28 dc28 pm28 an28 cd28 ct28), sl28⟩)
    (c28 : PySem.W.codeIn K cd28 "_law_map_over" = true)
    (k28 : PySem.W.keepIn K (.ref f28) = true)
    (a29 : PySem.W.nsIn K mainGlobals "_law_integer" = some (some (.ref f29)))
    (l29 : K.lookup f29 = some ⟨oc29, od29, .func (PySem.W.fnOf "_law_integer" "_law_integer" (defArgs s_l_integer) (defBody s_l_integer) (defScope s_l_integer) .none kV29 dc29 pm29 an29 cd29 ct29), sl29⟩)
    (c29 : PySem.W.codeIn K cd29 "_law_integer" = true)
    (k29 : PySem.W.keepIn K (.ref f29) = true)
    (a30 : PySem.W.nsIn K mainGlobals "_law_integers" = some (some (.ref f30)))
    (l30 : K.lookup f30 = some ⟨oc30, od30, .func (PySem.W.fnOf "_law_integers" "_law_integers" (defArgs s_l_integers) (defBody s_l_integers) (defScope s_l_integers) .none kV30 dc30 pm30 an30 cd30 ct30), sl30⟩)
    (c30 : PySem.W.codeIn K cd30 "_law_integers" = true)
    (k30 : PySem.W.keepIn K (.ref f30) = true)
    (a31 : PySem.W.nsIn K mainGlobals "_law_judged" = some (some (.ref f31)))
    (l31 : K.lookup f31 = some ⟨oc31, od31, .func (PySem.W.fnOf "_law_judged" "_law_judged" (defArgs s_l_judged) (defBody s_l_judged) (defScope s_l_judged) .none kV31 dc31 pm31 an31 cd31 ct31), sl31⟩)
    (c31 : PySem.W.codeIn K cd31 "_law_judged" = true)
    (k31 : PySem.W.keepIn K (.ref f31) = true)
    (a32 : PySem.W.nsIn K mainGlobals "_law_has_map" = some (some (.ref f32)))
    (l32 : K.lookup f32 = some ⟨oc32, od32, .func (PySem.W.fnOf "_law_has_map" "_law_has_map" (defArgs s_l_has_map) (defBody s_l_has_map) (defScope s_l_has_map) .none kV32 dc32 pm32 an32 cd32 ct32), sl32⟩)
    (c32 : PySem.W.codeIn K cd32 "_law_has_map" = true)
    (k32 : PySem.W.keepIn K (.ref f32) = true)
    (a33 : PySem.W.nsIn K mainGlobals "_law_due" = some (some (.ref f33)))
    (l33 : K.lookup f33 = some ⟨oc33, od33, .func (PySem.W.fnOf "_law_due" "_law_due" (defArgs s_l_due) (defBody s_l_due) (defScope s_l_due) .none kV33 dc33 pm33 an33 cd33 ct33), sl33⟩)
    (c33 : PySem.W.codeIn K cd33 "_law_due" = true)
    (k33 : PySem.W.keepIn K (.ref f33) = true)
    (a34 : PySem.W.nsIn K mainGlobals "_law_shuffled" = some (some (.ref f34)))
    (l34 : K.lookup f34 = some ⟨oc34, od34, .func (PySem.W.fnOf "_law_shuffled" "_law_shuffled" (defArgs s_l_shuffled) (defBody s_l_shuffled) (defScope s_l_shuffled) .none kV34 dc34 pm34 an34 cd34 ct34), sl34⟩)
    (c34 : PySem.W.codeIn K cd34 "_law_shuffled" = true)
    (k34 : PySem.W.keepIn K (.ref f34) = true)
    (a35 : PySem.W.nsIn K mainGlobals "_law_folded" = some (some (.ref f35)))
    (l35 : K.lookup f35 = some ⟨oc35, od35, .func (PySem.W.fnOf "_law_folded" "_law_folded" (defArgs s_l_folded) (defBody s_l_folded) (defScope s_l_folded) .none kV35 dc35 pm35 an35 cd35 ct35), sl35⟩)
    (c35 : PySem.W.codeIn K cd35 "_law_folded" = true)
    (k35 : PySem.W.keepIn K (.ref f35) = true)
    (a36 : PySem.W.nsIn K mainGlobals "_law_other" = some (some (.ref f36)))
    (l36 : K.lookup f36 = some ⟨oc36, od36, .func (PySem.W.fnOf "_law_other" "_law_other" (defArgs s_l_other) (defBody s_l_other) (defScope s_l_other) .none kV36 dc36 pm36 an36 cd36 ct36), sl36⟩)
    (c36 : PySem.W.codeIn K cd36 "_law_other" = true)
    (k36 : PySem.W.keepIn K (.ref f36) = true)
    (a37 : PySem.W.nsIn K mainGlobals "_law_refused" = some (some (.ref f37)))
    (l37 : K.lookup f37 = some ⟨oc37, od37, .func (PySem.W.fnOf "_law_refused" "_law_refused" (defArgs s_l_refused) (defBody s_l_refused) (defScope s_l_refused) .none kV37 dc37 pm37 an37 cd37 ct37), sl37⟩)
    (c37 : PySem.W.codeIn K cd37 "_law_refused" = true)
    (k37 : PySem.W.keepIn K (.ref f37) = true)
    (a38 : PySem.W.findIn K (.ref CQ) "__init__" = some (some (.ref f38)))
    (t38 : PySem.W.typeIn K (.ref f38) = some (.type "function"))
    (l38 : K.lookup f38 = some ⟨oc38, od38, .func (PySem.W.fnOf "__init__" "BadPattern.__init__" (defArgs s_BadPattern_init) (defBody s_BadPattern_init) (defScope s_BadPattern_init) .none kV38 dc38 pm38 an38 cd38 ct38), sl38⟩)
    (c38 : PySem.W.codeIn K cd38 "BadPattern.__init__" = true)
    (k38 : PySem.W.keepIn K (.ref f38) = true)
    (a39 : PySem.W.nsIn K mainGlobals "law" = some (some (.ref f39)))
    (l39 : K.lookup f39 = some ⟨oc39, od39, .func (PySem.W.fnOf "law" "law" (defArgs s_law) (defBody s_law) (defScope s_law) .none kV39 dc39 pm39 an39 cd39 ct39), sl39⟩)
    (c39 : PySem.W.codeIn K cd39 "law" = true)
    (k39 : PySem.W.keepIn K (.ref f39) = true)
    (pg_Pattern : PySem.W.plainGet K CP Str.empty = true)
    (hd_Pattern : PySem.W.hasDictIn K CP = true)
    (po_Pattern : PySem.W.plainOver K CP = true)
    (sa_Pattern : PySem.W.findIn K (.ref CP) "__setattr__" = some (some (.builtin "object.__setattr__")))
    (mk_Pattern : PySem.W.makesIn K CP = true)
    (kc_Pattern : PySem.W.keepIn K (.ref CP) = true)
    (n_Pattern_rows : PySem.W.findIn K (.ref CP) "rows" = some none)
    (n_Pattern_group : PySem.W.findIn K (.ref CP) "group" = some none)
    (n_Pattern_powers : PySem.W.findIn K (.ref CP) "powers" = some none)
    (z_len : PySem.W.nsIn K mainGlobals "len" = some none)
    (z_list : PySem.W.nsIn K mainGlobals "list" = some none)
    (z_tuple : PySem.W.nsIn K mainGlobals "tuple" = some none)
    (z_isinstance : PySem.W.nsIn K mainGlobals "isinstance" = some none)
    (z_str : PySem.W.nsIn K mainGlobals "str" = some none)
    (z_dict : PySem.W.nsIn K mainGlobals "dict" = some none)
    (z_bool : PySem.W.nsIn K mainGlobals "bool" = some none)
    (z_int : PySem.W.nsIn K mainGlobals "int" = some none)
    (z_max : PySem.W.nsIn K mainGlobals "max" = some none)
    (z_all : PySem.W.nsIn K mainGlobals "all" = some none)
    (z_set : PySem.W.nsIn K mainGlobals "set" = some none)
    (z_range : PySem.W.nsIn K mainGlobals "range" = some none)
    (z_enumerate : PySem.W.nsIn K mainGlobals "enumerate" = some none)
    (z_min : PySem.W.nsIn K mainGlobals "min" = some none)
    (z_sum : PySem.W.nsIn K mainGlobals "sum" = some none)
    (z_zip : PySem.W.nsIn K mainGlobals "zip" = some none)
    (z_sorted : PySem.W.nsIn K mainGlobals "sorted" = some none)
    (g_MOST_PATTERN_ROWS : PySem.W.nsIn K mainGlobals "MOST_PATTERN_ROWS" = some (some (.int 6 tg6)))
    (g_MOST_SYMBOLS : PySem.W.nsIn K mainGlobals "MOST_SYMBOLS" = some (some (.int 4 tg7)))
    (g_LONGEST_GROUP : PySem.W.nsIn K mainGlobals "LONGEST_GROUP" = some (some (.int 3 tg8)))
    (g_LARGEST_POWER : PySem.W.nsIn K mainGlobals "LARGEST_POWER" = some (some (.int 100 tg9)))
    (g_LETTERS : PySem.W.nsIn K mainGlobals "LETTERS" = some (some (.str "abcdefghijklmnopqrstuvwxyz" tg0)))
    (g_LONGEST_NAME : PySem.W.nsIn K mainGlobals "LONGEST_NAME" = some (some (.int 8 tg1)))
    (g_LARGEST_VALUE : PySem.W.nsIn K mainGlobals "LARGEST_VALUE" = some (some (.int 1000000000 tg4)))
    (cget : PySem.W.specialIn K (.builtin "object.__class__") "__get__" = some (some (.builtin "getset_descriptor.__get__")))
    (ctak : PySem.W.takesIn K (.builtin "object.__class__") = some true)
    (pcls : PySem.W.findIn K (.ref CP) "__class__" = some (some (.builtin "object.__class__")))
    (pmro : PySem.W.mroIn K CP (.type "object") = some true)
    (kp_NoneType : PySem.W.kitOne K (.type "NoneType") (.ref CP) = some false)
    (kp_bool : PySem.W.kitOne K (.type "bool") (.ref CP) = some false)
    (kp_int : PySem.W.kitOne K (.type "int") (.ref CP) = some false)
    (kp_str : PySem.W.kitOne K (.type "str") (.ref CP) = some false)
    (kp_list : PySem.W.kitOne K (.type "list") (.ref CP) = some false)
    (kp_tuple : PySem.W.kitOne K (.type "tuple") (.ref CP) = some false)
    (kp_dict : PySem.W.kitOne K (.type "dict") (.ref CP) = some false)
    (errs : errsB K [(CQ, "at")] [] = true) :
    ∃ fd : FuncData, (∀ (s : Shared) (v : Value), BindsTo s fd ⟨[v], []⟩ [("_law_script", v)]) ∧ ∀ base : Heap, K.In base → base.Ns mainGlobals mg → FnOk l.prog w K mg base CX0 44 fa fd ["_law_script"] (spLaw K) := by
  have e := hfa.symm.trans (PySem.W.mg_of X G a39)
  cases e
  have F0 := fun_mk (st := s_l_pick) l0 c0 k0
  have b0 := F0.binds (ps := ps_l_pick) fun _ _ _ _ _ _ us hl => match us, hl with | [_, _], _ => rfl
  have F1 := fun_mk (st := s_is_name) l1 c1 k1
  have b1 := F1.binds (ps := ps_is_name) fun _ _ _ _ _ _ us hl => match us, hl with | [_], _ => rfl
  have F2 := fun_mk (st := s_is_row) l2 c2 k2
  have b2 := F2.binds (ps := ps_is_row) fun _ _ _ _ _ _ us hl => match us, hl with | [_, _, _], _ => rfl
  have F3 := fun_mk (st := s_is_tuple) l3 c3 k3
  have b3 := F3.binds (ps := ps_is_tuple) fun _ _ _ _ _ _ us hl => match us, hl with | [_, _], _ => rfl
  have F4 := fun_mk (st := s_l_bag) l4 c4 k4
  have b4 := F4.binds (ps := ps_l_bag) fun _ _ _ _ _ _ us hl => match us, hl with | [_], _ => rfl
  have F5 := fun_mk (st := s_l_name) l5 c5 k5
  have b5 := F5.binds (ps := ps_l_name) fun _ _ _ _ _ _ us hl => match us, hl with | [_, _], _ => rfl
  have F6 := fun_mk (st := s_is_integer) l6 c6 k6
  have b6 := F6.binds (ps := ps_is_integer) fun _ _ _ _ _ _ us hl => match us, hl with | [_], _ => rfl
  have F7 := fun_mk (st := s_is_value) l7 c7 k7
  have b7 := F7.binds (ps := ps_is_value) fun _ _ _ _ _ _ us hl => match us, hl with | [_], _ => rfl
  have F8 := fun_mk (st := s_is_unknown) l8 c8 k8
  have b8 := F8.binds (ps := ps_is_unknown) fun _ _ _ _ _ _ us hl => match us, hl with | [_], _ => rfl
  have F9 := fun_mk (st := s_is_pattern_row) l9 c9 k9
  have b9 := F9.binds (ps := ps_is_pattern_row) fun _ _ _ _ _ _ us hl => match us, hl with | [_], _ => rfl
  have F10 := fun_mk (st := s_are_pattern_rows) l10 c10 k10
  have b10 := F10.binds (ps := ps_are_pattern_rows) fun _ _ _ _ _ _ us hl => match us, hl with | [_], _ => rfl
  have F11 := fun_mk (st := s_unknowns_of) l11 c11 k11
  have b11 := F11.binds (ps := ps_unknowns_of) fun _ _ _ _ _ _ us hl => match us, hl with | [_], _ => rfl
  have F12 := fun_mk (st := s_named) l12 c12 k12
  have b12 := F12.binds (ps := ps_named) fun _ _ _ _ _ _ us hl => match us, hl with | [_], _ => rfl
  have F13 := fun_mk (st := s_renamed) l13 c13 k13
  have b13 := F13.binds (ps := ps_renamed) fun _ _ _ _ _ _ us hl => match us, hl with | [_, _], _ => rfl
  have F14 := fun_mk (st := s_is_known_symbol) l14 c14 k14
  have b14 := F14.binds (ps := ps_is_known_symbol) fun _ _ _ _ _ _ us hl => match us, hl with | [_, _], _ => rfl
  have F15 := fun_mk (st := s_are_powers) l15 c15 k15
  have b15 := F15.binds (ps := ps_are_powers) fun _ _ _ _ _ _ us hl => match us, hl with | [_, _], _ => rfl
  have F16 := fun_mk (st := s_Pattern_init) l16 c16 k16
  have b16 := F16.binds (ps := ps_Pattern_init) fun _ _ _ _ _ _ us hl => match us, hl with | [_, _, _, _], _ => rfl
  have F17 := fun_mk (st := s_l_tables) l17 c17 k17
  have b17 := F17.binds (ps := ps_l_tables) fun _ _ _ _ _ _ us hl => match us, hl with | [_], _ => rfl
  have F18 := fun_mk (st := s_l_value) l18 c18 k18
  have b18 := F18.binds (ps := ps_l_value) fun _ _ _ _ _ _ us hl => match us, hl with | [_], _ => rfl
  have F19 := fun_mk (st := s_l_pool) l19 c19 k19
  have b19 := F19.binds (ps := ps_l_pool) fun _ _ _ _ _ _ us hl => match us, hl with | [_], _ => rfl
  have F20 := fun_mk (st := s_l_pattern) l20 c20 k20
  have b20 := F20.binds (ps := ps_l_pattern) fun _ _ _ _ _ _ us hl => match us, hl with | [_, _, _], _ => rfl
  have F21 := fun_mk (st := s_extended) l21 c21 k21
  have b21 := F21.binds (ps := ps_extended) fun _ _ _ _ _ _ us hl => match us, hl with | [_, _, _], _ => rfl
  have F22 := fun_mk (st := s_places_of) l22 c22 k22
  have b22 := F22.binds (ps := ps_places_of) fun _ _ _ _ _ _ us hl => match us, hl with | [_, _, _], _ => rfl
  have F23 := fun_mk (st := s_map_from) l23 c23 k23
  have b23 := F23.binds (ps := ps_map_from) fun _ _ _ _ _ _ us hl => match us, hl with | [_, _, _], _ => rfl
  have F24 := fun_mk (st := s_check_pattern) l24 c24 k24
  have b24 := F24.binds (ps := ps_check_pattern) fun _ _ _ _ _ _ us hl => match us, hl with | [_], _ => rfl
  have F25 := fun_mk (st := s_map_between) l25 c25 k25
  have b25 := F25.binds (ps := ps_map_between) fun _ _ _ _ _ _ us hl => match us, hl with | [_, _, _, _], _ => rfl
  have F26 := fun_mk (st := s_group_map) l26 c26 k26
  have b26 := F26.binds (ps := ps_group_map) fun _ _ _ _ _ _ us hl => match us, hl with | [_, _], _ => rfl
  have F27 := fun_mk (st := s_l_sent) l27 c27 k27
  have b27 := F27.binds (ps := ps_l_sent) fun _ _ _ _ _ _ us hl => match us, hl with | [_, _, _], _ => rfl
  have F28 := fun_mk (st := s_l_map_over) l28 c28 k28
  have b28 := F28.binds (ps := ps_l_map_over) fun _ _ _ _ _ _ us hl => match us, hl with | [_, _, _, _, _], _ => rfl
  have F29 := fun_mk (st := s_l_integer) l29 c29 k29
  have b29 := F29.binds (ps := ps_l_integer) fun _ _ _ _ _ _ us hl => match us, hl with | [_], _ => rfl
  have F30 := fun_mk (st := s_l_integers) l30 c30 k30
  have b30 := F30.binds (ps := ps_l_integers) fun _ _ _ _ _ _ us hl => match us, hl with | [_], _ => rfl
  have F31 := fun_mk (st := s_l_judged) l31 c31 k31
  have b31 := F31.binds (ps := ps_l_judged) fun _ _ _ _ _ _ us hl => match us, hl with | [_, _, _, _, _], _ => rfl
  have F32 := fun_mk (st := s_l_has_map) l32 c32 k32
  have b32 := F32.binds (ps := ps_l_has_map) fun _ _ _ _ _ _ us hl => match us, hl with | [_, _, _, _], _ => rfl
  have F33 := fun_mk (st := s_l_due) l33 c33 k33
  have b33 := F33.binds (ps := ps_l_due) fun _ _ _ _ _ _ us hl => match us, hl with | [_, _, _], _ => rfl
  have F34 := fun_mk (st := s_l_shuffled) l34 c34 k34
  have b34 := F34.binds (ps := ps_l_shuffled) fun _ _ _ _ _ _ us hl => match us, hl with | [_, _], _ => rfl
  have F35 := fun_mk (st := s_l_folded) l35 c35 k35
  have b35 := F35.binds (ps := ps_l_folded) fun _ _ _ _ _ _ us hl => match us, hl with | [_, _, _, _], _ => rfl
  have F36 := fun_mk (st := s_l_other) l36 c36 k36
  have b36 := F36.binds (ps := ps_l_other) fun _ _ _ _ _ _ us hl => match us, hl with | [_, _, _, _, _], _ => rfl
  have F37 := fun_mk (st := s_l_refused) l37 c37 k37
  have b37 := F37.binds (ps := ps_l_refused) fun _ _ _ _ _ _ us hl => match us, hl with | [_, _], _ => rfl
  have F38 := fun_mk (st := s_BadPattern_init) l38 c38 k38
  have b38 := F38.binds (ps := ps_BadPattern_init) fun _ _ _ _ _ _ us hl => match us, hl with | [_, _], _ => rfl
  have F39 := fun_mk (st := s_law) l39 c39 k39
  have b39 := F39.binds (ps := ps_law) fun _ _ _ _ _ _ us hl => match us, hl with | [_], _ => rfl
  refine ⟨PySem.W.fnOf "law" "law" (defArgs s_law) (defBody s_law) (defScope s_law) .none kV39 dc39 pm39 an39 cd39 ct39, fun s v => .of_eq rfl, fun base _ _ => ?_⟩
  obtain ⟨E_BadPattern, nf_BadPattern⟩ := errs_f errs (CQ, "at") (by simp)
  have X_BadPattern : Xf l.prog w K mg base "BadPattern" CQ "at" := ⟨f38, _, ⟨⟨_, _, _, _, _, _, _, _, _, _, _, _, _, _, _, xL0, rfl⟩, E_BadPattern.sa, E_BadPattern.sb, E_BadPattern.ty, E_BadPattern.kp⟩, a38, t38, ok_BadPattern F38, PySem.W.mg_of X G aC_BadPattern, b38, kbn_one fun _ _ => rfl, nf_BadPattern⟩
  have T : Txt K mg CP := ⟨PySem.W.mg_none_of X G z_len, PySem.W.mg_none_of X G z_list, PySem.W.mg_none_of X G z_tuple, PySem.W.mg_none_of X G z_isinstance, PySem.W.mg_none_of X G z_str, PySem.W.mg_none_of X G z_dict, PySem.W.mg_none_of X G z_bool, PySem.W.mg_none_of X G z_int, PySem.W.mg_none_of X G z_max, PySem.W.mg_none_of X G z_all, PySem.W.mg_none_of X G z_set, PySem.W.mg_none_of X G z_range, PySem.W.mg_none_of X G z_enumerate, PySem.W.mg_none_of X G z_min, PySem.W.mg_none_of X G z_sum, PySem.W.mg_none_of X G z_zip, PySem.W.mg_none_of X G z_sorted,
    ⟨_, PySem.W.mg_of X G g_MOST_PATTERN_ROWS⟩, ⟨_, PySem.W.mg_of X G g_MOST_SYMBOLS⟩, ⟨_, PySem.W.mg_of X G g_LONGEST_GROUP⟩, ⟨_, PySem.W.mg_of X G g_LARGEST_POWER⟩, ⟨_, PySem.W.mg_of X G g_LETTERS⟩, ⟨_, PySem.W.mg_of X G g_LONGEST_NAME⟩, ⟨_, PySem.W.mg_of X G g_LARGEST_VALUE⟩,
    cget, ctak⟩
  have T5 : Tx5 K mg CP := ⟨PySem.W.mg_of X G aC_Pattern, ⟨pg_Pattern, hd_Pattern, po_Pattern, sa_Pattern⟩, n_Pattern_rows, n_Pattern_group, n_Pattern_powers⟩
  have T7 : Tx7 K CQ := ⟨PySem.W.exm_ref E_BadPattern.sb E_BadPattern.hd E_BadPattern.ty (errs_s errs 0 0 (by show 0 < 1; decide) (by show 0 < 1; decide)),
    ⟨E_BadPattern.ga, E_BadPattern.gg, E_BadPattern.sb, E_BadPattern.hd⟩, nf_BadPattern⟩
  have T8 : Tx8 K CP := ⟨pcls, pmro, fun n hn => by
      simp only [List.mem_cons, List.mem_nil_iff, or_false] at hn
      rcases hn with rfl | rfl | rfl | rfl | rfl | rfl | rfl
      · exact kp_NoneType
      · exact kp_bool
      · exact kp_int
      · exact kp_str
      · exact kp_list
      · exact kp_tuple
      · exact kp_dict
    ⟩
  have U1 : Df l.prog w K mg base "_law_bag" 1 ps_l_bag (spBag K) := ⟨f4, _, ok_l_bag F4 T, PySem.W.mg_of X G a4, k4, b4⟩
  have U2 : Df l.prog w K mg base "_law_pick" 1 ps_l_pick spPick := ⟨f0, _, ok_l_pick F0 T, PySem.W.mg_of X G a0, k0, b0⟩
  have U3 : Df l.prog w K mg base "_law_name" 2 ps_l_name spName := ⟨f5, _, ok_l_name F5 T U2, PySem.W.mg_of X G a5, k5, b5⟩
  have U4 : Df l.prog w K mg base "_law_tables" 3 ps_l_tables spTables := ⟨f17, _, ok_l_tables F17 T U2 U3, PySem.W.mg_of X G a17, k17, b17⟩
  have U5 : Df l.prog w K mg base "_law_value" 2 ps_l_value spValue := ⟨f18, _, ok_l_value F18 T U2, PySem.W.mg_of X G a18, k18, b18⟩
  have U6 : Df l.prog w K mg base "_law_pool" 2 ps_l_pool spPool := ⟨f19, _, ok_l_pool F19 T U2, PySem.W.mg_of X G a19, k19, b19⟩
  have U7 : Df l.prog w K mg base "_law_pattern" 3 ps_l_pattern spPattern := ⟨f20, _, ok_l_pattern F20 T U2 U5 U6, PySem.W.mg_of X G a20, k20, b20⟩
  have U8 : Df l.prog w K mg base "_law_folded" 2 ps_l_folded spFolded := ⟨f35, _, ok_l_folded F35 T U2, PySem.W.mg_of X G a35, k35, b35⟩
  have U9 : Df l.prog w K mg base "_law_shuffled" 2 ps_l_shuffled spShuffled := ⟨f34, _, ok_l_shuffled F34 T U2, PySem.W.mg_of X G a34, k34, b34⟩
  have U10 : Df l.prog w K mg base "_law_other" 4 ps_l_other spOther := ⟨f36, _, ok_l_other F36 T U2 U7 U8 U9, PySem.W.mg_of X G a36, k36, b36⟩
  have U11 : Df l.prog w K mg base "is_row" 1 ps_is_row (spIsRow K) := ⟨f2, _, ok_is_row F2 T, PySem.W.mg_of X G a2, k2, b2⟩
  have U12 : Df l.prog w K mg base "is_tuple" 1 ps_is_tuple (spIsTuple K) := ⟨f3, _, ok_is_tuple F3 T, PySem.W.mg_of X G a3, k3, b3⟩
  have U13 : Df l.prog w K mg base "is_name" 1 ps_is_name (spIsName K) := ⟨f1, _, ok_is_name F1 T, PySem.W.mg_of X G a1, k1, b1⟩
  have U14 : Df l.prog w K mg base "is_unknown" 1 ps_is_unknown spUnk := ⟨f8, _, ok_is_unknown F8 T, PySem.W.mg_of X G a8, k8, b8⟩
  have U15 : Df l.prog w K mg base "is_integer" 1 ps_is_integer spIsInt := ⟨f6, _, ok_is_integer F6 T, PySem.W.mg_of X G a6, k6, b6⟩
  have U16 : Df l.prog w K mg base "is_value" 2 ps_is_value spIsVal := ⟨f7, _, ok_is_value F7 T U15, PySem.W.mg_of X G a7, k7, b7⟩
  have U17 : Df l.prog w K mg base "is_pattern_row" 3 ps_is_pattern_row spPRow := ⟨f9, _, ok_is_pattern_row F9 T U12 U13 U11 U14 U16, PySem.W.mg_of X G a9, k9, b9⟩
  have U18 : Df l.prog w K mg base "are_pattern_rows" 4 ps_are_pattern_rows spPRows := ⟨f10, _, ok_are_pattern_rows F10 T U11 U17, PySem.W.mg_of X G a10, k10, b10⟩
  have U19 : Df l.prog w K mg base "unknowns_of" 2 ps_unknowns_of spUnks := ⟨f11, _, ok_unknowns_of F11 T U14, PySem.W.mg_of X G a11, k11, b11⟩
  have U20 : Df l.prog w K mg base "named" 3 ps_named spNamed := ⟨f12, _, ok_named F12 T U19, PySem.W.mg_of X G a12, k12, b12⟩
  have U21 : Df l.prog w K mg base "is_known_symbol" 3 ps_is_known_symbol spKnown := ⟨f14, _, ok_is_known_symbol F14 T U14 U16, PySem.W.mg_of X G a14, k14, b14⟩
  have U22 : Df l.prog w K mg base "are_powers" 2 ps_are_powers spPowers := ⟨f15, _, ok_are_powers F15 T U14 U15, PySem.W.mg_of X G a15, k15, b15⟩
  have U23 : Df l.prog w K mg base "renamed" 2 ps_renamed spRenamed := ⟨f13, _, ok_renamed F13 T U14, PySem.W.mg_of X G a13, k13, b13⟩
  have U24 : Dc l.prog w K mg base "Pattern" CP 5 ps_Pattern_init (spPatI CP) := ⟨f16, _, ok_Pattern_init F16 T T5 U18 U20 U11 U21 U22 U23, PySem.W.mg_of X G aC_Pattern, ⟨mk_Pattern, a16, i16, kc_Pattern⟩, b16⟩
  have U25 : Df l.prog w K mg base "_law_due" 1 ps_l_due spDue := ⟨f33, _, ok_l_due F33 T, PySem.W.mg_of X G a33, k33, b33⟩
  have U26 : Df l.prog w K mg base "_law_sent" 1 ps_l_sent spSent := ⟨f27, _, ok_l_sent F27 T, PySem.W.mg_of X G a27, k27, b27⟩
  have U27 : Df l.prog w K mg base "_law_map_over" 2 ps_l_map_over spOver := ⟨f28, _, ok_l_map_over F28 T U26, PySem.W.mg_of X G a28, k28, b28⟩
  have U28 : Df l.prog w K mg base "_law_has_map" 3 ps_l_has_map spHasMap := ⟨f32, _, ok_l_has_map F32 T U26 U27, PySem.W.mg_of X G a32, k32, b32⟩
  have U29 : Df l.prog w K mg base "_law_integer" 1 ps_l_integer spInt1 := ⟨f29, _, ok_l_integer F29 T, PySem.W.mg_of X G a29, k29, b29⟩
  have U30 : Df l.prog w K mg base "_law_integers" 2 ps_l_integers (spInts K) := ⟨f30, _, ok_l_integers F30 T U29, PySem.W.mg_of X G a30, k30, b30⟩
  have U31 : Df l.prog w K mg base "_law_judged" 3 ps_l_judged spJudged := ⟨f31, _, ok_l_judged F31 T U30 U27, PySem.W.mg_of X G a31, k31, b31⟩
  have U32 : DfX l.prog w K mg base "check_pattern" 3 ps_check_pattern (spChkP CP CQ) := ⟨f24, _, ok_check_pattern F24 T T5 T8 X_BadPattern, PySem.W.mg_of X G a24, k24, b24⟩
  have U33 : Df l.prog w K mg base "extended" 2 ps_extended spExtG := ⟨f21, _, ok_extended F21 T U14, PySem.W.mg_of X G a21, k21, b21⟩
  have U34 : Df l.prog w K mg base "places_of" 3 ps_places_of spPlaces := ⟨f22, _, ok_places_of F22 T U33, PySem.W.mg_of X G a22, k22, b22⟩
  have U35 : ∀ n, Df l.prog w K mg base "map_from" (4 + n) ps_map_from (spMapFrom n) := fun n => ⟨f23, _, ok_map_from F23 T U33 U34 (PySem.W.mg_of X G a23) b23 n, PySem.W.mg_of X G a23, k23, b23⟩
  have U36 : Df l.prog w K mg base "map_between" 12 ps_map_between spMapBetween := ⟨f25, _, ok_map_between F25 T U33 U35, PySem.W.mg_of X G a25, k25, b25⟩
  have U37 : DfX l.prog w K mg base "group_map" 14 ps_group_map (spGroupMap CP CQ) := ⟨f26, _, ok_group_map F26 T T5 U32 U36, PySem.W.mg_of X G a26, k26, b26⟩
  have U38 : Df l.prog w K mg base "_law_refused" 15 ps_l_refused (spRefM CP) := ⟨f37, _, ok_l_refused F37 T T7 X_BadPattern U37, PySem.W.mg_of X G a37, k37, b37⟩
  exact ok_law F39 T T5 U1 U2 U4 U7 U10 U24 U25 U28 U31 U37 U38
theorem walk {l : PySem.W.OpenLaw} {q : Program} {loose : List Str} {XP : (Str → Option Value) → Heap → Prop} {YP : World → Heap → Prop} {d : DefRec} {K : Params → PySem.W.Frag} (hn : l.most = some 63) (hdf : d.params.defaults = [])
    (hY : ∀ (w : World) (h : Heap), YP w h → (K w.params).In h)
    (F : ∀ (w : World) (mg : Str → Option Value) (fa : Addr) (h : Heap), (K w.params).In h → h.Ns mainGlobals mg → mg d.name = some (.ref fa) →
      ∃ fd : FuncData, (∀ (s : Shared) (u : Value), BindsTo s fd ⟨[u], []⟩ [("_law_script", u)]) ∧ ∀ base : Heap, (K w.params).In base → base.Ns mainGlobals mg → FnOk l.prog w (K w.params) mg base CX0 44 fa fd ["_law_script"] (spLaw (K w.params))) :
    PySem.W.WalkO q loose XP YP l.row.toRowW d [] (fun f vs => PySem.call f vs) :=
  L2.walk_of (n := 63) (k := 44) (x := "_law_script") (CX := fun _ => CX0) (sp := fun w => spLaw (K w.params)) hn (by decide) hdf ⟨rfl, by decide, by decide⟩ hY F (fun _ _ a ns hl _ hS => ⟨a, ns, rfl, hS, hl, fun _ => rfl⟩) fun _ _ _ _ _ z => z
end Fm

/-! ## K32N -/
set_option Elab.async false
set_option maxRecDepth 100000
open PySem PySem.W PyProof.Rows in
set_option maxRecDepth 100000 in
set_option maxHeartbeats 0 in
theorem PySem.Challenge.cw_firstmet_k32_group_map_holds : PySem.Challenge.rw_firstmet_k32_group_map.Holds := by
  w_on; o_law; k_head; (case hw => w_witness2)
  k_fill
  refine Fm.walk (l := PySem.Challenge.rw_firstmet_k32_group_map) rfl rfl (fun w h Y => PySem.W.kIn_of Y) ?F
  case F =>
    intro w mg fa h KX G hmg
    refine' Fm.all_mk KX G hmg ?aC_Pattern ?aC_BadPattern ?xL0 ?a0 ?l0 ?c0 ?k0 ?a1 ?l1 ?c1 ?k1 ?a2 ?l2 ?c2 ?k2 ?a3 ?l3 ?c3 ?k3 ?a4 ?l4 ?c4 ?k4 ?a5 ?l5 ?c5 ?k5 ?a6 ?l6 ?c6 ?k6 ?a7 ?l7 ?c7 ?k7 ?a8 ?l8 ?c8 ?k8 ?a9 ?l9 ?c9 ?k9 ?a10 ?l10 ?c10 ?k10 ?a11 ?l11 ?c11 ?k11 ?a12 ?l12 ?c12 ?k12 ?a13 ?l13 ?c13 ?k13 ?a14 ?l14 ?c14 ?k14 ?a15 ?l15 ?c15 ?k15 ?a16 ?i16 ?l16 ?c16 ?k16 ?a17 ?l17 ?c17 ?k17 ?a18 ?l18 ?c18 ?k18 ?a19 ?l19 ?c19 ?k19 ?a20 ?l20 ?c20 ?k20 ?a21 ?l21 ?c21 ?k21 ?a22 ?l22 ?c22 ?k22 ?a23 ?l23 ?c23 ?k23 ?a24 ?l24 ?c24 ?k24 ?a25 ?l25 ?c25 ?k25 ?a26 ?l26 ?c26 ?k26 ?a27 ?l27 ?c27 ?k27 ?a28 ?l28 ?c28 ?k28 ?a29 ?l29 ?c29 ?k29 ?a30 ?l30 ?c30 ?k30 ?a31 ?l31 ?c31 ?k31 ?a32 ?l32 ?c32 ?k32 ?a33 ?l33 ?c33 ?k33 ?a34 ?l34 ?c34 ?k34 ?a35 ?l35 ?c35 ?k35 ?a36 ?l36 ?c36 ?k36 ?a37 ?l37 ?c37 ?k37 ?a38 ?t38 ?l38 ?c38 ?k38 ?a39 ?l39 ?c39 ?k39 ?pg_Pattern ?hd_Pattern ?po_Pattern ?sa_Pattern ?mk_Pattern ?kc_Pattern ?n_Pattern_rows ?n_Pattern_group ?n_Pattern_powers ?z_len ?z_list ?z_tuple ?z_isinstance ?z_str ?z_dict ?z_bool ?z_int ?z_max ?z_all ?z_set ?z_range ?z_enumerate ?z_min ?z_sum ?z_zip ?z_sorted ?g_MOST_PATTERN_ROWS ?g_MOST_SYMBOLS ?g_LONGEST_GROUP ?g_LARGEST_POWER ?g_LETTERS ?g_LONGEST_NAME ?g_LARGEST_VALUE ?cget ?ctak ?pcls ?pmro ?kp_NoneType ?kp_bool ?kp_int ?kp_str ?kp_list ?kp_tuple ?kp_dict ?errs
    (case aC_Pattern => k_is)
    (case aC_BadPattern => k_is)
    (case xL0 => k_is)
    (case a0 => k_is)
    (case l0 => k_is)
    (case c0 => k_is)
    (case k0 => k_is)
    (case a1 => k_is)
    (case l1 => k_is)
    (case c1 => k_is)
    (case k1 => k_is)
    (case a2 => k_is)
    (case l2 => k_is)
    (case c2 => k_is)
    (case k2 => k_is)
    (case a3 => k_is)
    (case l3 => k_is)
    (case c3 => k_is)
    (case k3 => k_is)
    (case a4 => k_is)
    (case l4 => k_is)
    (case c4 => k_is)
    (case k4 => k_is)
    (case a5 => k_is)
    (case l5 => k_is)
    (case c5 => k_is)
    (case k5 => k_is)
    (case a6 => k_is)
    (case l6 => k_is)
    (case c6 => k_is)
    (case k6 => k_is)
    (case a7 => k_is)
    (case l7 => k_is)
    (case c7 => k_is)
    (case k7 => k_is)
    (case a8 => k_is)
    (case l8 => k_is)
    (case c8 => k_is)
    (case k8 => k_is)
    (case a9 => k_is)
    (case l9 => k_is)
    (case c9 => k_is)
    (case k9 => k_is)
    (case a10 => k_is)
    (case l10 => k_is)
    (case c10 => k_is)
    (case k10 => k_is)
    (case a11 => k_is)
    (case l11 => k_is)
    (case c11 => k_is)
    (case k11 => k_is)
    (case a12 => k_is)
    (case l12 => k_is)
    (case c12 => k_is)
    (case k12 => k_is)
    (case a13 => k_is)
    (case l13 => k_is)
    (case c13 => k_is)
    (case k13 => k_is)
    (case a14 => k_is)
    (case l14 => k_is)
    (case c14 => k_is)
    (case k14 => k_is)
    (case a15 => k_is)
    (case l15 => k_is)
    (case c15 => k_is)
    (case k15 => k_is)
    (case a16 => k_is)
    (case i16 => k_is)
    (case l16 => k_is)
    (case c16 => k_is)
    (case k16 => k_is)
    (case a17 => k_is)
    (case l17 => k_is)
    (case c17 => k_is)
    (case k17 => k_is)
    (case a18 => k_is)
    (case l18 => k_is)
    (case c18 => k_is)
    (case k18 => k_is)
    (case a19 => k_is)
    (case l19 => k_is)
    (case c19 => k_is)
    (case k19 => k_is)
    (case a20 => k_is)
    (case l20 => k_is)
    (case c20 => k_is)
    (case k20 => k_is)
    (case a21 => k_is)
    (case l21 => k_is)
    (case c21 => k_is)
    (case k21 => k_is)
    (case a22 => k_is)
    (case l22 => k_is)
    (case c22 => k_is)
    (case k22 => k_is)
    (case a23 => k_is)
    (case l23 => k_is)
    (case c23 => k_is)
    (case k23 => k_is)
    (case a24 => k_is)
    (case l24 => k_is)
    (case c24 => k_is)
    (case k24 => k_is)
    (case a25 => k_is)
    (case l25 => k_is)
    (case c25 => k_is)
    (case k25 => k_is)
    (case a26 => k_is)
    (case l26 => k_is)
    (case c26 => k_is)
    (case k26 => k_is)
    (case a27 => k_is)
    (case l27 => k_is)
    (case c27 => k_is)
    (case k27 => k_is)
    (case a28 => k_is)
    (case l28 => k_is)
    (case c28 => k_is)
    (case k28 => k_is)
    (case a29 => k_is)
    (case l29 => k_is)
    (case c29 => k_is)
    (case k29 => k_is)
    (case a30 => k_is)
    (case l30 => k_is)
    (case c30 => k_is)
    (case k30 => k_is)
    (case a31 => k_is)
    (case l31 => k_is)
    (case c31 => k_is)
    (case k31 => k_is)
    (case a32 => k_is)
    (case l32 => k_is)
    (case c32 => k_is)
    (case k32 => k_is)
    (case a33 => k_is)
    (case l33 => k_is)
    (case c33 => k_is)
    (case k33 => k_is)
    (case a34 => k_is)
    (case l34 => k_is)
    (case c34 => k_is)
    (case k34 => k_is)
    (case a35 => k_is)
    (case l35 => k_is)
    (case c35 => k_is)
    (case k35 => k_is)
    (case a36 => k_is)
    (case l36 => k_is)
    (case c36 => k_is)
    (case k36 => k_is)
    (case a37 => k_is)
    (case l37 => k_is)
    (case c37 => k_is)
    (case k37 => k_is)
    (case a38 => k_is)
    (case t38 => k_is)
    (case l38 => k_is)
    (case c38 => k_is)
    (case k38 => k_is)
    (case a39 => k_is)
    (case l39 => k_is)
    (case c39 => k_is)
    (case k39 => k_is)
    (case pg_Pattern => k_is)
    (case hd_Pattern => k_is)
    (case po_Pattern => k_is)
    (case sa_Pattern => k_is)
    (case mk_Pattern => k_is)
    (case kc_Pattern => k_is)
    (case n_Pattern_rows => k_is)
    (case n_Pattern_group => k_is)
    (case n_Pattern_powers => k_is)
    (case z_len => k_is)
    (case z_list => k_is)
    (case z_tuple => k_is)
    (case z_isinstance => k_is)
    (case z_str => k_is)
    (case z_dict => k_is)
    (case z_bool => k_is)
    (case z_int => k_is)
    (case z_max => k_is)
    (case z_all => k_is)
    (case z_set => k_is)
    (case z_range => k_is)
    (case z_enumerate => k_is)
    (case z_min => k_is)
    (case z_sum => k_is)
    (case z_zip => k_is)
    (case z_sorted => k_is)
    (case g_MOST_PATTERN_ROWS => k_is)
    (case g_MOST_SYMBOLS => k_is)
    (case g_LONGEST_GROUP => k_is)
    (case g_LARGEST_POWER => k_is)
    (case g_LETTERS => k_is)
    (case g_LONGEST_NAME => k_is)
    (case g_LARGEST_VALUE => k_is)
    (case cget => k_is)
    (case ctak => k_is)
    (case pcls => k_is)
    (case pmro => k_is)
    (case kp_NoneType => kit_is)
    (case kp_bool => kit_is)
    (case kp_int => kit_is)
    (case kp_str => kit_is)
    (case kp_list => kit_is)
    (case kp_tuple => kit_is)
    (case kp_dict => kit_is)
    (case errs => kernel_rfl)
